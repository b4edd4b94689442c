/- ONE STEP OF THE LAW's STORE: what there is now is. -/
import Derived.Test.YtddcbeeldjjmeaaGreatPart37
import Derived.Deep.RegionLaw
namespace Go.Proofs.YtddcbeeldjjmeaaGreat
open Go Go.Conc Go.RowKit Go.Nest Go.Tm Go.Proofs.YtddcbeeldjjmeaaGreat.Tw Go.Maps Go.Sort Go.Shelf Go.Eq
set_option linter.unusedVariables false
set_option linter.unusedSimpArgs false
def NowAs (base : Nat) (u u' : World) (wb s wd : Nat) (vall vroots vgone : Value) (ps : List (ByteArray × ByteArray)) : Prop :=
 ∃ v', LwAt u' wb s wd v' vall vroots vgone /\ OwnP base u' v' ps /\ Tn base (· = lwT) (fun _ => False) u u'
theorem nowAs {base : Nat} {u u1 : World} {wb s wd : Nat} {vnow v' vall vroots vgone : Value} {ps : List (ByteArray × ByteArray)} (hL : LwAt u wb s wd vnow vall vroots vgone) (hb : base <= wb) (hz : base <= u.heap.size) (hB : Below u.heap.size u u1) (hO : OwnP u.heap.size u1 v' ps) :
   NowAs base u (u1.setCell ⟨wb, 2, none⟩ v') wb s wd vall vroots vgone ps:= by
 have hL1 : LwAt u1 wb s wd vnow vall vroots vgone:= (hB.block wb hL.lt).trans hL
 have hT:= hL1.tn hb 2 v'
 exact ⟨v', hL1.set2 v', hT.row (by decide) (ownsRow_base hO hz), (Tn.below hB hz).trans hT⟩
theorem row_form {w : World} {b : Nat} {e : TypeId} {sz : Nat} {v : Value} {n : Nat} {xs : List Value} (h : w.ownsRow b e sz v n xs) : ∃ p c, v = .slice p n c:= by
 obtain ⟨_, ⟨rfl, rfl⟩ | ⟨g, cap, cur, rfl, _⟩⟩:= h
 . exact ⟨_, _, rfl⟩
 . exact ⟨_, _, rfl⟩
set_option maxRecDepth 20000 in
set_option maxHeartbeats 2000000 in
theorem dw_10 {a : Act} {u : World} {base wb ob s wd : Nat} {v e0 : Int} {key V : ByteArray} {vnow vall vroots vgone : Value} {ps : List (ByteArray × ByteArray)} (hA : Da a wb ob) (h5 : tm a 5 = .string key) (h6 : tm a 6 = .int .i64 e0) (hL : LwAt u wb s wd vnow vall vroots vgone) (hb : base <= wb) (hz : base <= u.heap.size) (ho2 : u.cell? ⟨ob, 2, none⟩ = some (.int .i64 v))
   (hval : ∀ w, Calls Tryz.prog 15 #[.int .i64 v] w fun e w' => e = .returned (.string V) /\ Below w.heap.size w w')
   (hput : ∀ u1, Below u.heap.size u u1 -> Calls Tryz.prog 16 #[vnow, .agg #[.string key, .string V]] u1 fun e w' => ∃ v', e = .returned v' /\ OwnP u1.heap.size w' v' ps /\ Below u1.heap.size u1 w') :
   (cL (cR (cR dSet))).wp Tryz.prog (onlyN fun a' u' => Da a' wb ob /\ tm a' 6 = .int .i64 e0 /\ NowAs base u u' wb s wd vall vroots vgone ps) a u:= by
 obtain ⟨c0, c1, c2, c3, c4, c5⟩:= hL.cells
 have hwl:= hL.lt
 have hol : ob < u.heap.size:= Tw.cell_lt ho2
 have hfz:= hL.frozen 2
 rw [hA.out, hA.w, hA.o, h5, h6]
 simp only [dSet, dInner, doC, cL, cR, cB, cT, bodyOf, Tryz.f5, Option.getD_some]
 go_region_law (first
   | (go_simp; go_at_call 15; refine (hval _).mono ?_; rintro e w2 ⟨rfl, hB2⟩; have hB2' : Below u.heap.size u w2:= below_mono (below_drewN u.heap.size u 1) hB2; have e2:= (hB2'.cell (p:= ⟨wb, 2, none⟩) hwl).trans c2)
   | (go_simp; go_at_call 16; refine (hput _ hB2').mono ?_; rintro e w3 ⟨v', rfl, hO3, hB3⟩; have hB3' : Below u.heap.size u w3:= below_mono hB2' hB3; have g2:= (hB3'.cell (p:= ⟨wb, 2, none⟩) hwl).trans c2; have hfz3 : w3.frozen? ⟨wb, 2, none⟩ = false:= ((show LwAt w3 wb s wd vnow vall vroots vgone from (hB3'.block wb hwl).trans hL)).frozen 2; have hO3' : OwnP u.heap.size w3 v' ps:= ownsRow_base hO3 hB2'.size; obtain ⟨p3, c3', rfl⟩:= row_form hO3'))
 all_goals (go_wp2_with fail)
 all_goals exact ⟨⟨rfl, rfl, rfl, rfl⟩, rfl, nowAs hL hb hz hB3' hO3'⟩
set_option maxRecDepth 20000 in
set_option maxHeartbeats 1000000 in
theorem dw_12 {a : Act} {u : World} {wb ob j : Nat} {key : ByteArray} (hA : Da a wb ob) (h5 : tm a 5 = .string key) (h22 : tm a 22 = .int .i64 j) (hj : j < 8) :
   (cL dB).wp Tryz.prog (onlyN fun a' u' => Da a' wb ob /\ tm a' 5 = .string key /\ tm a' 22 = .int .i64 j /\ tm a' 59 = .bool (decide (j = 4)) /\ u' = u) a u:= by
 have hh : j = 0 \/ j = 1 \/ j = 2 \/ j = 3 \/ j = 4 \/ j = 5 \/ j = 6 \/ j = 7:= by omega
 rcases hh with rfl | rfl | rfl | rfl | rfl | rfl | rfl | rfl <;>
 . rw [hA.out, hA.w, hA.o, h5, h22]
   simp only [dB, dInner, doC, cL, cR, cB, cT, cE, bodyOf, Tryz.f5, Option.getD_some]
   go_wp2_with fail
   exact ⟨⟨rfl, rfl, rfl, rfl⟩, rfl, rfl, rfl, rfl⟩
set_option maxRecDepth 20000 in
set_option maxHeartbeats 1000000 in
theorem dw_17 {a : Act} {u : World} {wb ob j : Nat} {key : ByteArray} (hA : Da a wb ob) (h5 : tm a 5 = .string key) (h22 : tm a 22 = .int .i64 j) (hj : j < 8) :
   (cL dB2).wp Tryz.prog (onlyN fun a' u' => Da a' wb ob /\ tm a' 22 = .int .i64 j /\ tm a' 89 = .bool (decide (j = 5)) /\ u' = u) a u:= by
 have hh : j = 0 \/ j = 1 \/ j = 2 \/ j = 3 \/ j = 4 \/ j = 5 \/ j = 6 \/ j = 7:= by omega
 rcases hh with rfl | rfl | rfl | rfl | rfl | rfl | rfl | rfl <;>
 . rw [hA.out, hA.w, hA.o, h5, h22]
   simp only [dB, dB2, dInner, doC, cL, cR, cB, cT, cE, bodyOf, Tryz.f5, Option.getD_some]
   go_wp2_with fail
   exact ⟨⟨rfl, rfl, rfl, rfl⟩, rfl, rfl, rfl⟩
set_option maxRecDepth 20000 in
theorem dw_13 {a : Act} {u : World} {wb ob : Nat} {key g : ByteArray} {b : Bool} {vnow : Value} (hA : Da a wb ob) (h5 : tm a 5 = .string key) (c2 : u.cell? ⟨wb, 2, none⟩ = some vnow)
   (hhas : Calls Tryz.prog 6 #[vnow, .string key] u fun e w' => e = .returned (.tuple #[.string g, .bool b]) /\ w' = u) (hv : ∃ p n c, vnow = .slice p n c) :
   (cL dDel).wp Tryz.prog (onlyN fun a' u' => Da a' wb ob /\ tm a' 5 = .string key /\ tm a' 8 = .bool b /\ u' = u) a u:= by
 obtain ⟨p, n, c, rfl⟩:= hv
 rw [hA.out, hA.w, hA.o, h5]
 simp only [dDel, dB, dInner, doC, cL, cR, cB, cT, cE, bodyOf, Tryz.f5, Option.getD_some]
 go_wp2_with (go_at_call 6; refine hhas.mono ?_; rintro e u2 ⟨rfl, rfl⟩)
 exact ⟨⟨rfl, rfl, rfl, rfl⟩, rfl, rfl, rfl⟩
set_option maxRecDepth 20000 in
theorem dw_14 {a : Act} {u : World} {wb ob s : Nat} {key : ByteArray} {b : Bool} {e0 : Int} {R : World -> Prop} (hA : Da a wb ob) (h5 : tm a 5 = .string key) (h8 : tm a 8 = .bool b) (c0 : u.cell? ⟨wb, 0, none⟩ = some (.pointer (some ⟨s, 0, none⟩)))
   (hdel : Calls Tryz.prog 17 #[.pointer (some ⟨s, 0, none⟩), .string key] u fun e w' => e = .returned (.int .i64 e0) /\ R w') :
   (cL (cR dDel)).wp Tryz.prog (onlyN fun a' u' => Da a' wb ob /\ tm a' 5 = .string key /\ tm a' 8 = .bool b /\ tm a' 9 = .int .i64 e0 /\ R u') a u:= by
 rw [hA.out, hA.w, hA.o, h5, h8]
 simp only [dDel, dB, dInner, doC, cL, cR, cB, cT, cE, bodyOf, Tryz.f5, Option.getD_some]
 go_wp2_with (go_at_call 17; refine hdel.mono ?_; rintro e u2 ⟨rfl, hR⟩)
 exact ⟨⟨rfl, rfl, rfl, rfl⟩, rfl, rfl, rfl, hR⟩
set_option maxRecDepth 20000 in
set_option maxHeartbeats 1000000 in
theorem dw_15 {a : Act} {u : World} {base wb ob s wd : Nat} {key : ByteArray} {b : Bool} {e0 : Int} {vnow vall vroots vgone : Value} {ps : List (ByteArray × ByteArray)} (hA : Da a wb ob) (h5 : tm a 5 = .string key) (h8 : tm a 8 = .bool b) (h9 : tm a 9 = .int .i64 e0) (hL : LwAt u wb s wd vnow vall vroots vgone) (hb : base <= wb) (hz : base <= u.heap.size)
   (hwo : Calls Tryz.prog 18 #[vnow, .string key] u fun e w' => ∃ v', e = .returned v' /\ OwnP u.heap.size w' v' ps /\ Below u.heap.size u w') :
   (cL (cR (cR dDel))).wp Tryz.prog (onlyN fun a' u' => Da a' wb ob /\ tm a' 8 = .bool b /\ tm a' 9 = .int .i64 e0 /\ NowAs base u u' wb s wd vall vroots vgone ps) a u:= by
 obtain ⟨c0, c1, c2, c3, c4, c5⟩:= hL.cells
 have hwl:= hL.lt
 have hfz:= hL.frozen 2
 rw [hA.out, hA.w, hA.o, h5, h8, h9]
 simp only [dDel, dB, dInner, doC, cL, cR, cB, cT, cE, bodyOf, Tryz.f5, Option.getD_some]
 go_wp2_with (go_at_call 18; refine hwo.mono ?_; rintro e w3 ⟨v', rfl, hO3, hB3⟩; have g2:= (hB3.cell (p:= ⟨wb, 2, none⟩) hwl).trans c2; have hfz3 : w3.frozen? ⟨wb, 2, none⟩ = false:= ((show LwAt w3 wb s wd vnow vall vroots vgone from (hB3.block wb hwl).trans hL)).frozen 2; obtain ⟨p3, c3', rfl⟩:= row_form hO3)
 exact ⟨⟨rfl, rfl, rfl, rfl⟩, rfl, rfl, nowAs hL hb hz hB3 hO3⟩
set_option maxRecDepth 20000 in
theorem dw_16 {a : Act} {u : World} {wb ob : Nat} {b : Bool} (hA : Da a wb ob) (h8 : tm a 8 = .bool b) (h9 : tm a 9 = .int .i64 (if b then 0 else 7)) :
   (cL (cR (cR (cR dDel)))).wp Tryz.prog (onlyN fun a' u' => Da a' wb ob /\ tm a' 4 = .bool true /\ u' = u) a u:= by
 rw [hA.out, hA.w, hA.o, h8, h9]
 simp only [dDel, dB, dInner, doC, cL, cR, cB, cT, cE, bodyOf, Tryz.f5, Option.getD_some]
 cases b
 . go_wp2_with fail
   exact ⟨⟨rfl, rfl, rfl, rfl⟩, rfl, rfl⟩
 . go_wp2_with fail
   exact ⟨⟨rfl, rfl, rfl, rfl⟩, rfl, rfl⟩
theorem own_typ {base : Nat} {w : World} {e : TypeId} {sz : Nat} {v : Value} {n : Nat} {xs : List Value} (h : w.ownsRow base e sz v n xs) {j : Nat} (hj : some j = v.ownBlock) : base <= j /\ ∃ cur fz, w.heap[j]? = some (.cells cur e fz):= by
 obtain ⟨_, ⟨rfl, _⟩ | ⟨g, cap, cur, rfl, hg, hb, _⟩⟩:= h
 . simp [Value.ownBlock] at hj
 . simp [Value.ownBlock] at hj; subst hj; exact ⟨hg, cur, _, hb⟩
theorem grow_tn {base : Nat} {u w0 w1 : World} {e : TypeId} {sz : Nat} {v : Value} {n : Nat} {xs : List Value} (hB : Below u.heap.size u w0) (h : w0.grownBy w1 v.ownBlock) (hr : u.ownsRow base e sz v n xs) (hz : base <= u.heap.size) : Tn base (· = e) (fun _ => False) u w1:= by
 have hr0 : w0.ownsRow base e sz v n xs:= (Tn.below (T:= fun _ => False) (M:= fun _ => False) hB hz).row (fun h => h) hr
 refine (Tn.below hB hz).trans (Tn.gw (Gw.grown h) (Nat.le_trans hz hB.size) (fun k cs ty fr hk hc => ?_) (fun k es cl hk hc => ?_) (fun k hk => (own_typ hr0 hk).1))
 . obtain ⟨_, cur, fz, h1⟩:= own_typ hr0 hk
   rw [h1] at hc; cases hc; rfl
 . obtain ⟨_, cur, fz, h1⟩:= own_typ hr0 hk
   rw [h1] at hc; cases hc
theorem prsinfo : (Tryz.prog.info? prsT).map (fun i => (i.zero, i.size, i.bytes)) = some (some (.slice none 0 0), 1, 24):= by kernel_rfl
theorem intinfo : (Tryz.prog.info? intT).map (fun i => (i.zero, i.size, i.bytes)) = some (some (.int .i64 0), 1, 8):= by kernel_rfl
theorem boolinfo : (Tryz.prog.info? boolT).map (fun i => (i.zero, i.size, i.bytes)) = some (some (.bool false), 1, 1):= by kernel_rfl
theorem lw_far {u w1 : World} {wb s wd n : Nat} {base : Nat} {e : TypeId} {sz : Nat} {v vnow vall vroots vgone : Value} {xs : List Value} {k : Option Nat} (hL : LwAt u wb s wd vnow vall vroots vgone) (hr : u.ownsRow base e sz v n xs) (he : lwT ≠ e) : some wb ≠ v.ownBlock:= by
 intro hk
 obtain ⟨_, cur, fz, h1⟩:= own_typ hr hk
 unfold LwAt at hL
 rw [h1] at hL
 cases hL
 exact he rfl
def AllAs (base : Nat) (u u' : World) (wb s wd : Nat) (vnow vroots vgone : Value) (n : Nat) (xs : List Value) : Prop :=
 ∃ v', LwAt u' wb s wd vnow v' vroots vgone /\ u'.ownsRow base prsT 1 v' (n + 1) (xs ++ [vnow]) /\ Tn base (fun t => t = lwT \/ t = prsT) (fun _ => False) u u'
set_option maxRecDepth 20000 in
set_option maxHeartbeats 2000000 in
theorem dw_19 {a : Act} {u : World} {base wb ob s wd n : Nat} {vnow vall vroots vgone v10 v11 v12 : Value} {xs : List Value} (hA : Da a wb ob) (h10 : tm a 10 = v10) (h11 : tm a 11 = v11) (h12 : tm a 12 = v12) (hL : LwAt u wb s wd vnow vall vroots vgone) (hb : base <= wb) (hz : base <= u.heap.size) (hr : u.ownsRow base prsT 1 vall n xs) (hn : n <= 5864062014700) (hv : ∃ p n c, vnow = .slice p n c) :
   (cL (cR dCom)).wp Tryz.prog (onlyN fun a' u' => Da a' wb ob /\ tm a' 10 = v10 /\ tm a' 11 = v11 /\ tm a' 12 = v12 /\ AllAs base u u' wb s wd vnow vroots vgone n xs) a u:= by
 obtain ⟨c0, c1, c2, c3, c4, c5⟩:= hL.cells
 obtain ⟨i0, hi, hz0, hz1, hz2⟩:= info_parts prsinfo
 have hwl:= hL.lt
 have hne : some wb ≠ vall.ownBlock:= lw_far (k:= none) (w1:= u) hL hr (by decide)
 obtain ⟨np, nn, nc, rfl⟩:= hv
 obtain ⟨ap, ac, rfl⟩:= row_form hr
 have hLb : ∀ o, LwAt (u.alloc o) wb s wd (.slice np nn nc) (.slice ap n ac) vroots vgone:= fun o => (Below.heap_alloc _ _ _ hwl).trans hL
 have hA2 : ∀ o, (u.alloc o).cell? ⟨wb, 2, none⟩ = some (.slice np nn nc):= fun o => (hLb o).cells.2.2.1
 have hA3 : ∀ o, (u.alloc o).cell? ⟨wb, 3, none⟩ = some (.slice ap n ac):= fun o => (hLb o).cells.2.2.2.1
 have hAf : ∀ o, (u.alloc o).frozen? ⟨wb, 3, none⟩ = false:= fun o => (hLb o).frozen 3
 have hOd : ∀ o, ((u.drew).alloc o).ownsRow base prsT 1 (.slice ap n ac) n xs:= fun o => World.ownsRow.alloc (w:= u.drew) hr o
 rw [hA.out, hA.w, hA.o, h10, h11, h12]
 simp only [dCom, dB2, dB, dInner, doC, cL, cR, cB, cT, cE, bodyOf, Tryz.f5, Option.getD_some]
 go_region_law (first
   | (refine step_append_lies _ (by rfl) _ _ _ (by rfl) base prsT i0 _ 1 24 Tryz.underlying32 hi hz0 hz1 hz2 rfl (by decide) _ n xs (by rfl) (hOd _) ⟨u.heap.size, 0, none⟩ 1 1 _ (by rfl) (by rfl) (World.news_of_block (heap_alloc_new u.drew _)) (by intro x hx; simp at hx; subst hx; rfl) (by decide) (by unfold maxLen; omega) (by omega) (by simp; omega) _ rfl ?_; intro g cap2 w1 hown1 hgrow hat hlt; have hx4:= (hgrow.cell_far ⟨wb, 3, none⟩ (by simp; omega) hne).trans (hA3 _); have hf4:= (hgrow.frozen_far ⟨wb, 3, none⟩ (by simp; omega) hne).trans (hAf _)))
 all_goals
   have hLw : LwAt w1 wb s wd (.slice np nn nc) (.slice ap n ac) vroots vgone:= (hgrow.block wb (by simp; omega) hne).trans ((Below.heap_alloc _ _ _ hwl).trans hL)
   have hT1 : Tn base (· = prsT) (fun _ => False) u w1:= grow_tn (((Below.refl _ u).drew).alloc (Nat.le_refl _) _) hgrow hr hz
   have hT2:= hLw.tn hb 3 (.slice (some ⟨g, 0, none⟩) (n + 1) cap2)
   have hR2:= hT2.row (by decide) hown1
   have hL2:= hLw.set3 (.slice (some ⟨g, 0, none⟩) (n + 1) cap2)
   clear hown1 hgrow hat hlt hx4 hf4
   try simp only [Exit.inBlock, Exit.then]
   exact ⟨⟨rfl, rfl, rfl, rfl⟩, rfl, rfl, rfl, _, hL2, hR2, (hT1.mono (fun _ h => .inr h) (fun _ h => h)).trans (hT2.mono (fun _ h => .inl h) (fun _ h => h))⟩
def RootsAs (base : Nat) (u u' : World) (wb s wd : Nat) (vnow vall vgone : Value) (n : Nat) (xs : List Value) : Prop :=
 ∃ v', LwAt u' wb s wd vnow vall v' vgone /\ u'.ownsRow base intT 1 v' (n + 1) xs /\ Tn base (fun t => t = lwT \/ t = intT) (fun _ => False) u u'
def GoneAs (base : Nat) (u u' : World) (wb s wd : Nat) (vnow vall vroots : Value) (n : Nat) (xs : List Value) : Prop :=
 ∃ v', LwAt u' wb s wd vnow vall vroots v' /\ u'.ownsRow base boolT 1 v' (n + 1) xs /\ Tn base (fun t => t = lwT \/ t = boolT) (fun _ => False) u u'
set_option maxRecDepth 20000 in
set_option maxHeartbeats 2000000 in
theorem dw_20 {a : Act} {u : World} {base wb ob s wd n : Nat} {r : Int} {vnow vall vroots vgone v10 v12 : Value} {xs : List Value} (hA : Da a wb ob) (h10 : tm a 10 = v10) (h11 : tm a 11 = .int .i64 r) (h12 : tm a 12 = v12) (hL : LwAt u wb s wd vnow vall vroots vgone) (hb : base <= wb) (hz : base <= u.heap.size) (hr : u.ownsRow base intT 1 vroots n xs) (hn : n <= 5864062014700) :
   (cL (cR (cR dCom))).wp Tryz.prog (onlyN fun a' u' => Da a' wb ob /\ tm a' 10 = v10 /\ tm a' 12 = v12 /\ RootsAs base u u' wb s wd vnow vall vgone n (xs ++ [.int .i64 r])) a u:= by
 obtain ⟨c0, c1, c2, c3, c4, c5⟩:= hL.cells
 obtain ⟨i0, hi, hz0, hz1, hz2⟩:= info_parts intinfo
 have hwl:= hL.lt
 have hne : some wb ≠ vroots.ownBlock:= lw_far (k:= none) (w1:= u) hL hr (by decide)
 obtain ⟨ap, ac, rfl⟩:= row_form hr
 rw [hA.out, hA.w, hA.o, h10, h11, h12]
 simp only [dCom, dB2, dB, dInner, doC, cL, cR, cB, cT, cE, bodyOf, Tryz.f5, Option.getD_some]
 go_wp2_with (at_builtin; refine wpList_append_own _ rfl (.tmp 117) (.tmp 119) 33 rfl base intT i0 _ 1 8 Tryz.underlying33 hi hz0 hz1 hz2 rfl (by decide) _ _ _ rfl (hr.alloc _) ⟨u.heap.size, 0, none⟩ 1 1 _ rfl rfl (World.news_of_block (heap_alloc_new u _)) ?c2 ?c3 ?c4 ?c5 ?_)
 case c2 => rfl
 case c3 => unfold maxLen; omega
 case c4 => omega
 case c5 => simp; omega
 . intro v' w1 hown1 hgrow _
   have hLw : LwAt w1 wb s wd vnow vall (.slice ap n ac) vgone:= (hgrow.block wb (by simp; omega) hne).trans ((Below.heap_alloc _ _ _ hwl).trans hL)
   have hT1 : Tn base (· = intT) (fun _ => False) u w1:= grow_tn ((Below.refl _ u).alloc (Nat.le_refl _) _) hgrow hr hz
   have hT2:= hLw.tn hb 4 v'
   have hR2:= hT2.row (by decide) hown1
   have hL2:= hLw.set4 v'
   have hfz:= hLw.frozen 4
   obtain ⟨d0, d1, d2, d3, d4, d5⟩:= hLw.cells
   obtain ⟨p3, c3', rfl⟩:= row_form hown1
   clear hown1 hgrow
   go_wp2_with fail
   exact ⟨⟨rfl, rfl, rfl, rfl⟩, rfl, rfl, _, hL2, hR2, (hT1.mono (fun _ h => .inr h) (fun _ h => h)).trans (hT2.mono (fun _ h => .inl h) (fun _ h => h))⟩
set_option maxRecDepth 20000 in
set_option maxHeartbeats 2000000 in
theorem dw_21 {a : Act} {u : World} {base wb ob s wd n : Nat} {vnow vall vroots vgone v10 v12 : Value} {xs : List Value} (hA : Da a wb ob) (h10 : tm a 10 = v10) (h12 : tm a 12 = v12) (hL : LwAt u wb s wd vnow vall vroots vgone) (hb : base <= wb) (hz : base <= u.heap.size) (hr : u.ownsRow base boolT 1 vgone n xs) (hn : n <= 5864062014700) :
   (cL (cR (cR (cR dCom)))).wp Tryz.prog (onlyN fun a' u' => Da a' wb ob /\ tm a' 10 = v10 /\ tm a' 12 = v12 /\ GoneAs base u u' wb s wd vnow vall vroots n (xs ++ [.bool false])) a u:= by
 obtain ⟨c0, c1, c2, c3, c4, c5⟩:= hL.cells
 obtain ⟨i0, hi, hz0, hz1, hz2⟩:= info_parts boolinfo
 have hwl:= hL.lt
 have hne : some wb ≠ vgone.ownBlock:= lw_far (k:= none) (w1:= u) hL hr (by decide)
 obtain ⟨ap, ac, rfl⟩:= row_form hr
 rw [hA.out, hA.w, hA.o, h10, h12]
 simp only [dCom, dB2, dB, dInner, doC, cL, cR, cB, cT, cE, bodyOf, Tryz.f5, Option.getD_some]
 go_wp2_with (at_builtin; refine wpList_append_own _ rfl (.tmp 127) (.tmp 128) 34 rfl base boolT i0 _ 1 1 Tryz.underlying34 hi hz0 hz1 hz2 rfl (by decide) _ _ _ rfl (hr.alloc _) ⟨u.heap.size, 0, none⟩ 1 1 _ rfl rfl (World.news_of_block (heap_alloc_new u _)) ?c2 ?c3 ?c4 ?c5 ?_)
 case c2 => rfl
 case c3 => unfold maxLen; omega
 case c4 => omega
 case c5 => simp; omega
 . intro v' w1 hown1 hgrow _
   have hLw : LwAt w1 wb s wd vnow vall vroots (.slice ap n ac):= (hgrow.block wb (by simp; omega) hne).trans ((Below.heap_alloc _ _ _ hwl).trans hL)
   have hT1 : Tn base (· = boolT) (fun _ => False) u w1:= grow_tn ((Below.refl _ u).alloc (Nat.le_refl _) _) hgrow hr hz
   have hT2:= hLw.tn hb 5 v'
   have hR2:= hT2.row (by decide) hown1
   have hL2:= hLw.set5 v'
   have hfz:= hLw.frozen 5
   obtain ⟨d0, d1, d2, d3, d4, d5⟩:= hLw.cells
   obtain ⟨p3, c3', rfl⟩:= row_form hown1
   clear hown1 hgrow
   go_wp2_with fail
   exact ⟨⟨rfl, rfl, rfl, rfl⟩, rfl, rfl, _, hL2, hR2, (hT1.mono (fun _ h => .inr h) (fun _ h => h)).trans (hT2.mono (fun _ h => .inl h) (fun _ h => h))⟩
set_option maxRecDepth 20000 in
theorem dw_22 {a : Act} {u : World} {wb ob n : Nat} {ap : Option Addr} {ac : Nat} (hA : Da a wb ob) (h10 : tm a 10 = .int .i64 n) (h12 : tm a 12 = .int .i64 0) (c3 : u.cell? ⟨wb, 3, none⟩ = some (.slice ap n ac)) :
   (cL (cR (cR (cR (cR dCom))))).wp Tryz.prog (onlyN fun a' u' => Da a' wb ob /\ tm a' 4 = .bool true /\ u' = u) a u:= by
 rw [hA.out, hA.w, hA.o, h10, h12]
 simp only [dCom, dB2, dB, dInner, doC, cL, cR, cB, cT, cE, bodyOf, Tryz.f5, Option.getD_some]
 go_wp2_with fail
 exact ⟨⟨rfl, rfl, rfl, rfl⟩, rfl, rfl⟩
theorem row_get {w : World} {b : Nat} {e : TypeId} {v : Value} {n : Nat} {xs : List Value} (h : w.ownsRow b e 1 v n xs) {i : Nat} (hi : i < n) : ∃ g cap x, v = .slice (some ⟨g, 0, none⟩) n cap /\ b <= g /\ xs[i]? = some x /\ w.cell? ⟨g, i, none⟩ = some x /\ w.frozen? ⟨g, i, none⟩ = false:= by
 obtain ⟨h1, ⟨rfl, h2⟩ | ⟨g, cap, cur, rfl, hg, hh, hn, hm, hc, ht⟩⟩:= h
 . omega
 . obtain ⟨x, hx⟩ : ∃ x, xs[i]? = some x:= ⟨_, List.getElem?_eq_getElem (by omega)⟩
   refine ⟨g, cap, x, rfl, hg, hx, ?_, by simp [World.frozen?, hh]⟩
   rw [<- ht, List.getElem?_take, if_pos (by omega), Array.getElem?_toList] at hx
   simp [World.cell?, hh, hx]
theorem row_set {w : World} {b : Nat} {e : TypeId} {g cap n : Nat} {xs : List Value} (h : w.ownsRow b e 1 (.slice (some ⟨g, 0, none⟩) n cap) n xs) {i : Nat} (hi : i < n) (x : Value) :
   (w.setCell ⟨g, i, none⟩ x).ownsRow b e 1 (.slice (some ⟨g, 0, none⟩) n cap) n (xs.set i x):= by
 obtain ⟨h1, ⟨h0, h2⟩ | ⟨g', cap', cur, hv, hg, hh, hn, hm, hc, ht⟩⟩:= h
 . cases h0
 . cases hv
   refine ⟨by simp [h1], .inr ⟨g, cap, cur.setIfInBounds i x, rfl, hg, ?_, hn, hm, by simp [hc], ?_⟩⟩
   . have hlt : g < w.heap.size:= (Array.getElem?_eq_some_iff.1 hh).1
     simp only [World.setCell, Array.getElem?_modify, if_true, hh]
     simp
   . rw [<- ht]
     simp only [Nat.mul_one, Array.toList_setIfInBounds]
     rw [List.take_set]
theorem row_set_tn {w : World} {base : Nat} {e : TypeId} {g cap n : Nat} {xs : List Value} (h : w.ownsRow base e 1 (.slice (some ⟨g, 0, none⟩) n cap) n xs) (i : Nat) (x : Value) : Tn base (· = e) (fun _ => False) w (w.setCell ⟨g, i, none⟩ x):= by
 obtain ⟨hg, cur, fz, hh⟩:= own_typ h (j:= g) (by simp [Value.ownBlock])
 have hne : ∀ k, k ≠ g -> (w.setCell ⟨g, i, none⟩ x).heap[k]? = w.heap[k]?:= fun k hk => Below.heap_setCell _ _ _ _ hk
 refine ⟨rfl, by simp [World.setCell], fun k cs ty fr h1 hn => ?_, fun k es cl h1 _ => ?_, fun k hk => hne k (by omega)⟩
 . by_cases hk : k = g
   . subst hk; rw [hh] at h1; cases h1; exact absurd rfl hn
   . rw [hne k hk]; exact h1
 . by_cases hk : k = g
   . subst hk; rw [hh] at h1; cases h1
   . rw [hne k hk]; exact h1
noncomputable abbrev dPr : Code:= cT (cR (cL (cR dTail)))
set_option maxRecDepth 20000 in
set_option maxHeartbeats 1000000 in
theorem dw_23 {a : Act} {u : World} {wb ob j n m : Nat} {v : Int} {ap : Option Addr} {ac : Nat} (hA : Da a wb ob) (c3 : u.cell? ⟨wb, 3, none⟩ = some (.slice ap n ac)) (c2 : u.cell? ⟨ob, 2, none⟩ = some (.int .i64 v))
   (hp : Calls Tryz.prog 12 #[.int .i64 v, .int .i64 n] u.drew fun e w' => e = .returned (.int .i64 m) /\ w' = u.drew) :
   (cL dTail).wp Tryz.prog (onlyN fun a' u' => Da a' wb ob /\ tm a' 13 = .int .i64 m /\ u' = u.drew) a u:= by
 have d3 : u.drew.cell? ⟨wb, 3, none⟩ = some (.slice ap n ac):= c3
 have d2 : u.drew.cell? ⟨ob, 2, none⟩ = some (.int .i64 v):= c2
 rw [hA.out, hA.w, hA.o]
 simp only [dTail, doC, cL, cR, cB, cT, cE, bodyOf, Tryz.f5, Option.getD_some]
 go_region_held3 (fun w' => w'.cell? ⟨wb, 3, none⟩ = some (.slice ap n ac) /\ w'.cell? ⟨ob, 2, none⟩ = some (.int .i64 v)) (first | go_keep | exact ⟨d3, d2⟩)
   (first | (go_at_call 12; refine hp.mono ?_; rintro e w2 ⟨rfl, hw2⟩; subst hw2))
 all_goals (go_wp2_with fail)
 all_goals exact ⟨⟨rfl, rfl, rfl, rfl⟩, rfl, rfl⟩
set_option maxRecDepth 20000 in
theorem dw_24 {a : Act} {u : World} {wb ob j m : Nat} {kd : Int} (hA : Da a wb ob) (h13 : tm a 13 = .int .i64 m) (c0 : u.cell? ⟨ob, 0, none⟩ = some (.int .i64 kd))
   (hp : Calls Tryz.prog 12 #[.int .i64 kd, .int .i64 8] u fun e w' => e = .returned (.int .i64 j) /\ w' = u) :
   (cL (cL (cR dTail))).wp Tryz.prog (onlyN fun a' u' => Da a' wb ob /\ tm a' 13 = .int .i64 m /\ tm a' 158 = .bool (decide (j = 7) && decide (1 < m)) /\ u' = u) a u:= by
 by_cases hj : j = 7
 . subst hj
   by_cases hm : 1 < m
   . have hd : decide ((1 : Int) < (m : Int)) = true:= decide_eq_true (by omega)
     have hd2 : decide (1 < m) = true:= decide_eq_true hm
     rw [hA.out, hA.w, hA.o, h13, hd2]
     simp only [dTail, doC, cL, cR, cB, cT, cE, bodyOf, Tryz.f5, Option.getD_some]
     go_wp2_with (go_at_call 12; refine hp.mono ?_; rintro e u2 ⟨rfl, rfl⟩)
     exact ⟨⟨rfl, rfl, rfl, rfl⟩, rfl, by first | rfl | simp [tm, hd], rfl⟩
   . have hd : decide ((1 : Int) < (m : Int)) = false:= decide_eq_false (by omega)
     have hd2 : decide (1 < m) = false:= decide_eq_false hm
     rw [hA.out, hA.w, hA.o, h13, hd2]
     simp only [dTail, doC, cL, cR, cB, cT, cE, bodyOf, Tryz.f5, Option.getD_some]
     go_wp2_with (go_at_call 12; refine hp.mono ?_; rintro e u2 ⟨rfl, rfl⟩)
     exact ⟨⟨rfl, rfl, rfl, rfl⟩, rfl, by first | rfl | simp [tm, hd], rfl⟩
 . have hd : ((j : Int) == 7) = false:= by simp; omega
   have hd2 : decide (j = 7) = false:= decide_eq_false hj
   rw [hA.out, hA.w, hA.o, h13, hd2, Bool.false_and]
   simp only [dTail, doC, cL, cR, cB, cT, cE, bodyOf, Tryz.f5, Option.getD_some]
   go_wp2_with (go_at_call 12; refine hp.mono ?_; rintro e u2 ⟨rfl, rfl⟩)
   exact ⟨⟨rfl, rfl, rfl, rfl⟩, rfl, by first | rfl | simp [tm, hd], rfl⟩
set_option maxRecDepth 20000 in
theorem dw_25 {a : Act} {u : World} {wb ob s m : Nat} {e0 : Int} {R : World -> Prop} (hA : Da a wb ob) (h13 : tm a 13 = .int .i64 m) (hm : m <= 1000000000000000) (c0 : u.cell? ⟨wb, 0, none⟩ = some (.pointer (some ⟨s, 0, none⟩)))
   (hp : Calls Tryz.prog 20 #[.pointer (some ⟨s, 0, none⟩), .int .i64 ((m : Int) + 1)] u fun e w' => e = .returned (.int .i64 e0) /\ R w') :
   (cL dPr).wp Tryz.prog (onlyN fun a' u' => Da a' wb ob /\ tm a' 13 = .int .i64 m /\ tm a' 14 = .int .i64 e0 /\ R u') a u:= by
 rw [hA.out, hA.w, hA.o, h13]
 simp only [dPr, dTail, doC, cL, cR, cB, cT, cE, bodyOf, Tryz.f5, Option.getD_some]
 go_wp2_with (go_at_call 20; refine hp.mono ?_; rintro e u2 ⟨rfl, hR⟩)
 exact ⟨⟨rfl, rfl, rfl, rfl⟩, rfl, rfl, hR⟩
set_option maxRecDepth 20000 in
theorem dw_26 {a : Act} {u : World} {wb ob m n g cap : Nat} {b : Bool} {e0 : Int} (hA : Da a wb ob) (h13 : tm a 13 = .int .i64 m) (h14 : tm a 14 = .int .i64 e0) (hm : m < n) (hn : n <= 1000000000000000) (c5 : u.cell? ⟨wb, 5, none⟩ = some (.slice (some ⟨g, 0, none⟩) n cap)) (cg : u.cell? ⟨g, m, none⟩ = some (.bool b)) :
   (cL (cR dPr)).wp Tryz.prog (onlyN fun a' u' => Da a' wb ob /\ tm a' 13 = .int .i64 m /\ tm a' 14 = .int .i64 e0 /\ tm a' 15 = .bool b /\ u' = u) a u:= by
 rw [hA.out, hA.w, hA.o, h13, h14]
 simp only [dPr, dTail, doC, cL, cR, cB, cT, cE, bodyOf, Tryz.f5, Option.getD_some]
 go_wp2_with fail
 exact ⟨⟨rfl, rfl, rfl, rfl⟩, rfl, rfl, rfl, rfl⟩
set_option maxRecDepth 20000 in
theorem dw_27 {a : Act} {u : World} {wb ob m n g cap : Nat} {b : Bool} {e0 : Int} (hA : Da a wb ob) (h14 : tm a 14 = .int .i64 e0) (h15 : tm a 15 = .bool b) (h13 : tm a 13 = .int .i64 m) (hm : m < n) (hn : n <= 1000000000000000) (c5 : u.cell? ⟨wb, 5, none⟩ = some (.slice (some ⟨g, 0, none⟩) n cap)) (cg : u.cell? ⟨g, m, none⟩ = some (.bool b)) (hfz : u.frozen? ⟨g, m, none⟩ = false) :
   (cL (cR (cR dPr))).wp Tryz.prog (onlyN fun a' u' => Da a' wb ob /\ tm a' 14 = .int .i64 e0 /\ tm a' 15 = .bool b /\ u' = u.setCell ⟨g, m, none⟩ (.bool true)) a u:= by
 rw [hA.out, hA.w, hA.o, h13, h14, h15]
 simp only [dPr, dTail, doC, cL, cR, cB, cT, cE, bodyOf, Tryz.f5, Option.getD_some]
 go_wp2_with fail
 exact ⟨⟨rfl, rfl, rfl, rfl⟩, rfl, rfl, rfl⟩
set_option maxRecDepth 20000 in
theorem dw_28 {a : Act} {u : World} {wb ob : Nat} {b : Bool} (hA : Da a wb ob) (h14 : tm a 14 = .int .i64 (if b then 9 else 0)) (h15 : tm a 15 = .bool b) :
   (cL (cR (cR (cR dPr)))).wp Tryz.prog (onlyN fun a' u' => Da a' wb ob /\ tm a' 4 = .bool true /\ u' = u) a u:= by
 rw [hA.out, hA.w, hA.o, h14, h15]
 simp only [dPr, dTail, doC, cL, cR, cB, cT, cE, bodyOf, Tryz.f5, Option.getD_some]
 cases b
 . go_wp2_with fail
   exact ⟨⟨rfl, rfl, rfl, rfl⟩, rfl, rfl⟩
 . go_wp2_with fail
   exact ⟨⟨rfl, rfl, rfl, rfl⟩, rfl, rfl⟩
set_option maxRecDepth 20000 in
theorem dw_29 {a : Act} {u : World} {wb ob s m : Nat} {e0 : Int} {R : World -> Prop} (hA : Da a wb ob) (h13 : tm a 13 = .int .i64 m) (hm : m <= 1000000000000000) (c0 : u.cell? ⟨wb, 0, none⟩ = some (.pointer (some ⟨s, 0, none⟩)))
   (hp : Calls Tryz.prog 21 #[.pointer (some ⟨s, 0, none⟩), .int .i64 ((m : Int) + 1)] u fun e w' => e = .returned (.int .i64 e0) /\ R w') :
   (cL (cR (cR dTail))).wp Tryz.prog (onlyN fun a' u' => Da a' wb ob /\ tm a' 13 = .int .i64 m /\ tm a' 16 = .int .i64 e0 /\ R u') a u:= by
 rw [hA.out, hA.w, hA.o, h13]
 simp only [dPr, dTail, doC, cL, cR, cB, cT, cE, bodyOf, Tryz.f5, Option.getD_some]
 go_wp2_with (go_at_call 21; refine hp.mono ?_; rintro e u2 ⟨rfl, hR⟩)
 exact ⟨⟨rfl, rfl, rfl, rfl⟩, rfl, rfl, hR⟩
theorem dw_30 {a : Act} {u : World} {wb ob m n g cap : Nat} {e0 : Int} (hA : Da a wb ob) (h13 : tm a 13 = .int .i64 m) (h16 : tm a 16 = .int .i64 e0) (hm : m < n) (hn : n <= 1000000000000000) (c5 : u.cell? ⟨wb, 5, none⟩ = some (.slice (some ⟨g, 0, none⟩) n cap)) (cg : u.cell? ⟨g, m, none⟩ = some (.bool true)) :
   (cL (cR (cR (cR dTail)))).wp Tryz.prog (onlyN fun a' u' => Da a' wb ob /\ tm a' 13 = .int .i64 m /\ tm a' 16 = .int .i64 e0 /\ u' = u) a u:= by
 rw [hA.out, hA.w, hA.o, h13, h16]
 simp only [dPr, dTail, doC, cL, cR, cB, cT, cE, bodyOf, Tryz.f5, Option.getD_some]
 go_wp2_with fail
 exact ⟨⟨rfl, rfl, rfl, rfl⟩, rfl, rfl, rfl⟩
theorem dw_31 {a : Act} {u : World} {wb ob m n g cap n2 cap2 g2 : Nat} {e0 : Int} {x vnow : Value} (hA : Da a wb ob) (h13 : tm a 13 = .int .i64 m) (h16 : tm a 16 = .int .i64 e0) (hm : m < n) (hn : n <= 1000000000000000) (c5 : u.cell? ⟨wb, 5, none⟩ = some (.slice (some ⟨g, 0, none⟩) n cap)) (cg : u.cell? ⟨g, m, none⟩ = some (.bool false))
   (c3 : u.cell? ⟨wb, 3, none⟩ = some (.slice (some ⟨g2, 0, none⟩) n cap2)) (cx : u.cell? ⟨g2, m, none⟩ = some x) (hx : ∃ p q c, x = .slice p q c) (c2 : u.cell? ⟨wb, 2, none⟩ = some vnow) (hfz : u.frozen? ⟨wb, 2, none⟩ = false) :
   (cL (cR (cR (cR dTail)))).wp Tryz.prog (onlyN fun a' u' => Da a' wb ob /\ tm a' 13 = .int .i64 m /\ tm a' 16 = .int .i64 e0 /\ u' = u.setCell ⟨wb, 2, none⟩ x) a u:= by
 obtain ⟨p, q, c, rfl⟩:= hx
 rw [hA.out, hA.w, hA.o, h13, h16]
 simp only [dPr, dTail, doC, cL, cR, cB, cT, cE, bodyOf, Tryz.f5, Option.getD_some]
 go_wp2_with fail
 exact ⟨⟨rfl, rfl, rfl, rfl⟩, rfl, rfl, rfl⟩
theorem dw_32 {a : Act} {u : World} {wb ob m n g cap : Nat} {b : Bool} (hA : Da a wb ob) (h13 : tm a 13 = .int .i64 m) (h16 : tm a 16 = .int .i64 (if b then 9 else 0)) (hm : m < n) (hn : n <= 1000000000000000) (c5 : u.cell? ⟨wb, 5, none⟩ = some (.slice (some ⟨g, 0, none⟩) n cap)) (cg : u.cell? ⟨g, m, none⟩ = some (.bool b)) :
   (cL (cR (cR (cR (cR dTail))))).wp Tryz.prog (onlyN fun a' u' => Da a' wb ob /\ tm a' 4 = .bool true /\ u' = u) a u:= by
 rw [hA.out, hA.w, hA.o, h13, h16]
 simp only [dPr, dTail, doC, cL, cR, cB, cT, cE, bodyOf, Tryz.f5, Option.getD_some]
 cases b
 . go_wp2_with fail
   exact ⟨⟨rfl, rfl, rfl, rfl⟩, rfl, rfl⟩
 . go_wp2_with fail
   exact ⟨⟨rfl, rfl, rfl, rfl⟩, rfl, rfl⟩
section
variable {base : Nat} {u u' : World} {wd cnt : Nat} {now : KV} {all : List KV} {roots : List Int} {gn : List Bool} {wb s bb cb vb : Nat} {F G : Lit -> Option Value} {B : KV} {t : Go.Tm.T ByteArray} {vnow vall vroots vgone : Value} {xs : List Value}
theorem Lw.still (h : Lw base u wd cnt now all roots gn wb s bb cb vb F G B t vnow vall vroots vgone xs) (hT : Tn base (fun _ => False) (fun _ => False) u u') : Lw base u' wd cnt now all roots gn wb s bb cb vb F G B t vnow vall vroots vgone xs where
 lw:= hT.cells wb _ _ _ h.lw (fun e => e)
 lo:= h.lo
 bound:= Nat.le_trans h.bound hT.size
 wide:= h.wide
 store:= hT.store (fun e => e) h.store
 changes:= hT.map (fun e => e) h.changes
 versions:= hT.map (fun e => e) h.versions
 apart:= h.apart
 tree:= hT.nd (fun e => e) h.tree
 rep:= h.rep
 rowB:= h.rowB
 rowN:= h.rowN
 chg:= h.chg
 count:= h.count
 lens:= h.lens
 rnow:= hT.row (fun e => e) h.rnow
 rall:= hT.row (fun e => e) h.rall
 rx:= fun i hi => by obtain ⟨v, h1, h2⟩:= h.rx i hi; exact ⟨v, h1, hT.row (fun e => e) h2⟩
 rroots:= hT.row (fun e => e) h.rroots
 rgone:= hT.row (fun e => e) h.rgone
 vers:= fun i hi => by obtain ⟨r, g, h1, h2, h3⟩:= h.vers i hi; exact ⟨r, g, h1, h2, h3.tn hT (fun e => e)⟩
 rts:= h.rts
theorem Lw.more (h : Lw base u wd cnt now all roots gn wb s bb cb vb F G B t vnow vall vroots vgone xs) (hc : cnt + 1 <= 5864062014700) : Lw base u wd (cnt + 1) now all roots gn wb s bb cb vb F G B t vnow vall vroots vgone xs :=
 { h with changes:= h.changes.mono (Nat.le_succ _), versions:= h.versions.mono (Nat.le_succ _), count:= ⟨Nat.le_succ_of_le h.count.1, hc⟩ }
theorem Lw.newNow (h : Lw base u wd cnt now all roots gn wb s bb cb vb F G B t vnow vall vroots vgone xs) {F' : Lit -> Option Value} {now' : KV} {v' : Value} (hT : Tn base (· = lwT) (· = cb) u u') (hL : LwAt u' wb s wd v' vall vroots vgone) (hM : MapAt Tryz.prog strT u' cb (cnt + 1) F') (hc : Chg F' B now') (hN : Row now') (hO : OwnP base u' v' now'.prs) (hcnt : cnt + 1 <= 5864062014700) :
   Lw base u' wd (cnt + 1) now' all roots gn wb s bb cb vb F' G B t v' vall vroots vgone xs where
 lw:= hL
 lo:= h.lo
 bound:= Nat.le_trans h.bound hT.size
 wide:= h.wide
 store:= hT.store (by decide) h.store
 changes:= hM
 versions:= (hT.map (fun e => h.apart.2.2 e.symm) h.versions).mono (Nat.le_succ _)
 apart:= h.apart
 tree:= hT.nd (by decide) h.tree
 rep:= h.rep
 rowB:= h.rowB
 rowN:= hN
 chg:= hc
 count:= ⟨Nat.le_succ_of_le h.count.1, hcnt⟩
 lens:= h.lens
 rnow:= hO
 rall:= hT.row (by decide) h.rall
 rx:= fun i hi => by obtain ⟨v, h1, h2⟩:= h.rx i hi; exact ⟨v, h1, hT.row (by decide) h2⟩
 rroots:= hT.row (by decide) h.rroots
 rgone:= hT.row (by decide) h.rgone
 vers:= fun i hi => by obtain ⟨r, g, h1, h2, h3⟩:= h.vers i hi; exact ⟨r, g, h1, h2, h3.tn hT (by decide)⟩
 rts:= h.rts
theorem Lw.loaded (h : Lw base u wd cnt now all roots gn wb s bb cb vb F G B t vnow vall vroots vgone xs) {m x : Nat} (hm : m < all.length) {ti : Go.Tm.T ByteArray} {v' : Value} (hrow : Row all[m]) (hSd : Sd ndT (dgw wd) All u ti.tr x) (hrep : Rep all[m].bits ti) (hO : OwnP base u v' all[m].prs)
   (hT : Tn base (fun ty => ty = stT \/ ty = lwT) (· = cb) u u') (hS : StoreAt u' s wd x cb vb all.length) (hL : LwAt u' wb s wd v' vall vroots vgone) (hM : MapAt Tryz.prog strT u' cb 0 (fun _ => none)) :
   Lw base u' wd cnt all[m] all roots gn wb s x cb vb (fun _ => none) G all[m] ti v' vall vroots vgone xs where
 lw:= hL
 lo:= h.lo
 bound:= Nat.le_trans h.bound hT.size
 wide:= h.wide
 store:= hS
 changes:= hM.mono (Nat.zero_le _)
 versions:= hT.map (fun e => h.apart.2.2 e.symm) h.versions
 apart:= h.apart
 tree:= sd_nd (hT.sd (by decide) hSd)
 rep:= hrep
 rowB:= hrow
 rowN:= hrow
 chg:= Chg.start _
 count:= h.count
 lens:= h.lens
 rnow:= hT.row (by decide) hO
 rall:= hT.row (by decide) h.rall
 rx:= fun i hi => by obtain ⟨v, h1, h2⟩:= h.rx i hi; exact ⟨v, h1, hT.row (by decide) h2⟩
 rroots:= hT.row (by decide) h.rroots
 rgone:= hT.row (by decide) h.rgone
 vers:= fun i hi => by obtain ⟨r, g, h1, h2, h3⟩:= h.vers i hi; exact ⟨r, g, h1, h2, h3.tn hT (by decide)⟩
 rts:= h.rts
theorem int_ne {i j : Nat} (h : i ≠ j) : Lit.int .i64 ((i : Int) + 1) ≠ Lit.int .i64 ((j : Int) + 1):= fun e => h (by injection e with _ e; omega)
theorem Lw.pruned (h : Lw base u wd cnt now all roots gn wb s bb cb vb F G B t vnow vall vroots vgone xs) {m : Nat} (hm : m < all.length) (hT : Tn base (fun ty => ty = boolT) (· = vb) u u') (hV : MapAt Tryz.prog intT u' vb cnt (upd G (.int .i64 ((m : Int) + 1)) none))
   (hR : u'.ownsRow base boolT 1 vgone all.length ((gn.set m true).map .bool)) : Lw base u' wd cnt now all roots (gn.set m true) wb s bb cb vb F (upd G (.int .i64 ((m : Int) + 1)) none) B t vnow vall vroots vgone xs where
 lw:= hT.cells wb _ _ _ h.lw (by decide)
 lo:= h.lo
 bound:= Nat.le_trans h.bound hT.size
 wide:= h.wide
 store:= hT.store (by decide) h.store
 changes:= hT.map (fun e => h.apart.2.2 e) h.changes
 versions:= hV
 apart:= h.apart
 tree:= hT.nd (by decide) h.tree
 rep:= h.rep
 rowB:= h.rowB
 rowN:= h.rowN
 chg:= h.chg
 count:= h.count
 lens:= ⟨h.lens.1, by simp [h.lens.2.1], h.lens.2.2⟩
 rnow:= hT.row (by decide) h.rnow
 rall:= hT.row (by decide) h.rall
 rx:= fun i hi => by obtain ⟨v, h1, h2⟩:= h.rx i hi; exact ⟨v, h1, hT.row (by decide) h2⟩
 rroots:= hT.row (by decide) h.rroots
 rgone:= hR
 vers:= fun i hi => by
   obtain ⟨r, g, h1, h2, h3⟩:= h.vers i hi
   by_cases e : i = m
   . subst e
     refine ⟨r, true, h1, ?_, h3.1, .inl ⟨rfl, upd_eq _ _ _⟩⟩
     rw [List.getElem?_set_self (by rw [h.lens.2.1]; exact hi)]
   . refine ⟨r, g, h1, by rw [List.getElem?_set_ne (Ne.symm e)]; exact h2, h3.1, ?_⟩
     rw [upd_ne (int_ne e)]
     exact (h3.tn hT (by decide)).2
 rts:= h.rts
theorem Lw.commit (h : Lw base u wd cnt now all roots gn wb s bb cb vb F G B t vnow vall vroots vgone xs) {x : Nat} {ti : Go.Tm.T ByteArray} {va vr vg : Value} (hT : Tn base (fun ty => ty = stT \/ ty = lwT \/ ty = prsT \/ ty = intT \/ ty = boolT) (fun k => k = cb \/ k = vb) u u')
   (hS : StoreAt u' s wd x cb vb ((all.length : Int) + 1)) (hM : MapAt Tryz.prog strT u' cb 0 (fun _ => none)) (hV : MapAt Tryz.prog intT u' vb (cnt + 1) (upd G (.int .i64 ((all.length : Int) + 1)) (some (.pointer (ptr x))))) (hSd : Sd ndT (dgw wd) All u' ti.tr x) (hrep : Rep now.bits ti)
   (hL : LwAt u' wb s wd vnow va vr vg) (ha : u'.ownsRow base prsT 1 va (all.length + 1) (xs ++ [vnow])) (hr : u'.ownsRow base intT 1 vr (all.length + 1) (roots.map (.int .i64) ++ [.int .i64 (Tr.dig (dgw wd) ti.tr)])) (hg : u'.ownsRow base boolT 1 vg (all.length + 1) (gn.map .bool ++ [.bool false])) (hcnt : cnt + 1 <= 5864062014700) :
   Lw base u' wd (cnt + 1) now (all ++ [now]) (roots ++ [Tr.dig (dgw wd) ti.tr]) (gn ++ [false]) wb s x cb vb (fun _ => none) (upd G (.int .i64 ((all.length : Int) + 1)) (some (.pointer (ptr x)))) now ti vnow va vr vg (xs ++ [vnow]) where
 lw:= hL
 lo:= h.lo
 bound:= Nat.le_trans h.bound hT.size
 wide:= h.wide
 store:= by rw [List.length_append]; exact hS
 changes:= hM.mono (Nat.zero_le _)
 versions:= hV
 apart:= h.apart
 tree:= sd_nd hSd
 rep:= hrep
 rowB:= h.rowN
 rowN:= h.rowN
 chg:= Chg.start _
 count:= ⟨by rw [List.length_append]; have:= h.count.1; simp; omega, hcnt⟩
 lens:= by simp [h.lens.1, h.lens.2.1, h.lens.2.2]
 rnow:= hT.row (by decide) h.rnow
 rall:= by rw [List.length_append]; exact ha
 rx:= fun i hi => by
   rw [List.length_append] at hi
   by_cases e : i < all.length
   . obtain ⟨v, h1, h2⟩:= h.rx i e
     refine ⟨v, by rw [List.getElem?_append_left (by rw [h.lens.2.2]; exact e)]; exact h1, ?_⟩
     rw [List.getElem_append_left e]
     exact hT.row (by decide) h2
   . have e2 : i = all.length:= by simp at hi; omega
     subst e2
     refine ⟨vnow, by rw [List.getElem?_append_right (by rw [h.lens.2.2]; omega), h.lens.2.2]; simp, ?_⟩
     rw [List.getElem_append_right (by omega)]
     simp only [Nat.sub_self, List.getElem_cons_zero]
     exact hT.row (by decide) h.rnow
 rroots:= by rw [List.length_append, List.map_append]; exact hr
 rgone:= by rw [List.length_append, List.map_append]; exact hg
 vers:= fun i hi => by
   rw [List.length_append] at hi
   by_cases e : i < all.length
   . obtain ⟨r, g, h1, h2, h3⟩:= h.vers i e
     refine ⟨r, g, by rw [List.getElem?_append_left (by rw [h.lens.1]; exact e)]; exact h1, by rw [List.getElem?_append_left (by rw [h.lens.2.1]; exact e)]; exact h2, ?_⟩
     rw [List.getElem_append_left e]
     refine ⟨h3.1, ?_⟩
     rw [upd_ne (int_ne (by omega))]
     exact (h3.tn hT (by decide)).2
   . have e2 : i = all.length:= by simp at hi; omega
     subst e2
     refine ⟨_, false, by rw [List.getElem?_append_right (by rw [h.lens.1]; omega), h.lens.1]; simp; rfl, by rw [List.getElem?_append_right (by rw [h.lens.2.1]; omega), h.lens.2.1]; simp, ?_⟩
     rw [List.getElem_append_right (by omega)]
     simp only [Nat.sub_self, List.getElem_cons_zero]
     exact ⟨h.rowN, .inr ⟨rfl, x, ti, upd_eq _ _ _, hSd, hrep, rfl⟩⟩
 rts:= fun i hi => by
   rw [List.length_append] at hi
   by_cases e : i < all.length
   . obtain ⟨t, h1, h2⟩:= h.rts i e
     refine ⟨t, by rw [List.getElem_append_left e]; exact h1, by rw [List.getElem?_append_left (by rw [h.lens.1]; exact e)]; exact h2⟩
   . have e2 : i = all.length:= by simp at hi; omega
     subst e2
     refine ⟨ti, ?_, by rw [List.getElem?_append_right (by rw [h.lens.1]; omega), h.lens.1]; simp⟩
     rw [List.getElem_append_right (by omega)]
     simp only [Nat.sub_self, List.getElem_cons_zero]
     exact hrep
end
section
variable [Env] [Runs] {Orc : Oracle} {Stop : Frame -> World -> Prop}
variable {base : Nat} {u : World} {wd cnt : Nat} {now : KV} {all : List KV} {roots : List Int} {gn : List Bool} {wb s bb cb vb : Nat} {F G : Lit -> Option Value} {B : KV} {t : Go.Tm.T ByteArray} {vnow vall vroots vgone : Value} {xs : List Value} {kd k v : Int} {c : Frame} {cs : List Frame}
abbrev bDo : Frame:= Conc.base 5
theorem does_ret {a : Act} {ob : Nat} {x : Value} {K : List Item} (hA : Da a wb ob) (h4 : tm a 4 = x) (hmode : ∀ v ch, (c.finish v).mode ≠ .panicking ch) (h : LSc Tryz.prog Orc Stop (live (c.finish x) cs) u) :
   LSc Tryz.prog Orc Stop (Conc.G (bDo.at a (.code .ret :: K)) (c :: cs)) u:= by
 refine LSc.retAt (v:= x) rfl hA.defers Tryz.func5 (fun w => ?_) (fun w => ?_) hmode h
 . simp only [tm] at h4
   rw [results_tmp (t:= 4) rfl]
   simp [h4]
 . simp [results, Tryz.results5]
set_option maxRecDepth 20000 in
theorem does_start (X : Setup Tryz.prog fnsM outsM orcsM) (hL : Lw base u wd cnt now all roots gn wb s bb cb vb F G B t vnow vall vroots vgone xs) (hkd : I64 kd) (hk : I64 k)
   (K : ∀ a ob u1, Da a wb ob -> tm a 5 = .string (keyN (pickN k 20)) -> tm a 22 = .int .i64 (pickN kd 8) -> tm a 23 = .bool (decide (pickN kd 8 < 4)) -> StpAt u1 ob kd k v -> Tn base (fun _ => False) (fun _ => False) u u1 -> Lw base u1 wd cnt now all roots gn wb s bb cb vb F G B t vnow vall vroots vgone xs ->
     LSc Tryz.prog Orc Stop (Conc.G (bDo.at a [.code (cR dInner), .inBlock 0, .code dTail]) (c :: cs)) u1) :
   LSc Tryz.prog Orc Stop (live (Frame.enter Tryz.prog 5 #[.pointer (some ⟨wb, 0, none⟩), .agg #[.int .i64 kd, .int .i64 k, .int .i64 v]] .normal) (c :: cs)) u:= by
 rw [enter_at _ Tryz.func5 (show Tryz.f5.body = some doC from rfl)]
 generalize ha : ({ tmps:= #[Value.pointer (some ⟨wb, 0, none⟩), .agg #[.int .i64 kd, .int .i64 k, .int .i64 v]] ++ Array.replicate (Tryz.f5.ntmps - #[Value.pointer (some ⟨wb, 0, none⟩), .agg #[.int .i64 kd, .int .i64 k, .int .i64 v]].size) undef, defers:= [] } : Act) = a
 have a1 : a.tmps.size = 228:= by rw [<- ha]; simp [Tryz.ntmps5]
 have a2 : a.defers = []:= by rw [<- ha]
 have a3 : tm a 0 = .pointer (some ⟨wb, 0, none⟩):= by rw [<- ha]; simp [tm]
 have a4 : tm a 1 = .agg #[.int .i64 kd, .int .i64 k, .int .i64 v]:= by rw [<- ha]; simp [tm]
 clear ha
 show LSc _ _ _ (Conc.G (bDo.at a [.code doC]) (c :: cs)) u
 refine LSc.c_seq (x:= cL doC) (y:= cR doC) ?_
 refine LSc.norm (fun a' u' => ∃ ob, Da a' wb ob /\ StpAt u' ob kd k v /\ Tn base (fun _ => False) (fun _ => False) u u') (X.fit (by kernel_rfl)) (fun t => Code.wp_mono ?_ (dw_0 (u:= World.on u t) a1 a2 a3 a4)) (fun a' u' t ⟨ob, h1, h2, h4⟩ => ⟨ob, h1, h2, h4.on t⟩) ?_
 . rintro e a' w' h
   cases e <;> first | exact h.elim | skip
   obtain ⟨ob, h1, h2, h3⟩:= h
   exact ⟨ob, h1, h2, (Tn.below h3 hL.bound).on' _⟩
 rintro a u1 ⟨ob, hA, hS, hT1⟩
 refine LSc.c_seq (x:= cL (cR doC)) (y:= cR (cR doC)) ?_
 refine LSc.norm (fun a' u' => Da a' wb ob /\ tm a' 5 = .string (keyN (pickN k 20)) /\ StpAt u' ob kd k v /\ Tn base (fun _ => False) (fun _ => False) u u') (X.fit (by kernel_rfl)) (fun t => Code.wp_mono ?_ (dw_1 (u:= World.on u1 t) hA hS hk)) (fun a' u' t ⟨h1, h2, h3, h4⟩ => ⟨h1, h2, h3, h4.on t⟩) ?_
 . rintro e a' w' h
   cases e <;> first | exact h.elim | skip
   obtain ⟨h1, h2, h3⟩:= h
   have hT : Tn base (fun _ => False) (fun _ => False) u1 w':= (Tn.below h3 (Nat.le_trans hL.bound hT1.size)).on' _
   exact ⟨h1, h2, hS.tn hT (fun e => e), hT1.trans hT⟩
 rintro a u2 ⟨hA, h5, hS, hT2⟩
 refine LSc.c_seq (x:= cL (cR (cR doC))) (y:= cR (cR (cR doC))) ?_
 refine LSc.c_seq (x:= cL (cL (cR (cR doC)))) (y:= cR (cL (cR (cR doC)))) ?_
 refine LSc.norm (fun a' u' => Da a' wb ob /\ tm a' 5 = .string (keyN (pickN k 20)) /\ tm a' 22 = .int .i64 (pickN kd 8) /\ StpAt u' ob kd k v /\ Tn base (fun _ => False) (fun _ => False) u u') (X.fit (by kernel_rfl)) (fun t => Code.wp_mono ?_ (dw_2 (u:= World.on u2 t) hA h5 hS hkd)) (fun a' u' t ⟨h1, h2, h3, h4, h6⟩ => ⟨h1, h2, h3, h4, h6.on t⟩) ?_
 . rintro e a' w' h
   cases e <;> first | exact h.elim | skip
   obtain ⟨h1, h2, h3, rfl⟩:= h
   exact ⟨h1, h2, h3, hS, hT2.on _⟩
 rintro a u3 ⟨hA, h5, h22, hS, hT3⟩
 refine LSc.c_block (c:= dInner) ?_
 refine LSc.c_seq (x:= cL dInner) (y:= cR dInner) ?_
 refine LSc.norm (fun a' u' => Da a' wb ob /\ tm a' 5 = .string (keyN (pickN k 20)) /\ tm a' 22 = .int .i64 (pickN kd 8) /\ tm a' 23 = .bool (decide (pickN kd 8 < 4)) /\ StpAt u' ob kd k v /\ Tn base (fun _ => False) (fun _ => False) u u') (X.fit (by kernel_rfl)) (fun t => Code.wp_mono ?_ (dw_3 (u:= World.on u3 t) hA h5 h22 (pickN_lt kd 8 (by decide)))) (fun a' u' t ⟨h1, h2, h3, h4, h6, h7⟩ => ⟨h1, h2, h3, h4, h6, h7.on t⟩) ?_
 . rintro e a' w' h
   cases e <;> first | exact h.elim | skip
   obtain ⟨h1, h2, h3, h4, rfl⟩:= h
   exact ⟨h1, h2, h3, h4, hS, hT3.on _⟩
 rintro a u4 ⟨hA, h5, h22, h23, hS, hT4⟩
 exact K a ob u4 hA h5 h22 h23 hS hT4 (hL.still hT4)
end
theorem valN_size (i : Nat) (h : i < 6) : (valN i).size <= 20 \/ (i = 4 /\ (valN i).size = 21):= by
 have : ∀ i : Fin 6, (valN i).size <= 20 \/ ((i : Nat) = 4 /\ (valN i).size = 21):= by decide
 exact this ⟨i, h⟩
theorem grown_tn {base : Nat} {u w' : World} {K0 : TypeId} {cb n : Nat} {F : Lit -> Option Value} (hM : MapAt Tryz.prog K0 u cb n F) (hg : u.grownBy w' (some cb)) (hb : base <= cb) (hz : base <= u.heap.size) : Tn base (fun _ => False) (· = cb) u w':= by
 obtain ⟨D, ⟨es0, cl0, e0, _⟩, _⟩:= hM
 refine Tn.gw (Gw.grown hg) hz (fun k cs ty fr hk hc => ?_) (fun k es cl hk hc => by cases hk; rfl) (fun k hk => by cases hk; exact hb)
 cases hk
 rw [e0] at hc; cases hc
section
variable [Env] [Runs] {Orc : Oracle} {Stop : Frame -> World -> Prop}
variable {base : Nat} {u : World} {wd cnt : Nat} {now : KV} {all : List KV} {roots : List Int} {gn : List Bool} {wb s bb cb vb : Nat} {F G : Lit -> Option Value} {B : KV} {t : Go.Tm.T ByteArray} {vnow vall vroots vgone : Value} {xs : List Value} {kd k v : Int}
def Old (base : Nat) (u u' : World) : Prop:= ∀ k, k < base -> u'.heap[k]? = u.heap[k]?
omit [Env] [Runs] in
theorem Old.trans {base : Nat} {u u' u'' : World} (h : Old base u u') (k : Old base u' u'') : Old base u u'':= fun i hi => (k i hi).trans (h i hi)
def Next (base : Nat) (u0 : World) (wd cnt : Nat) (now : KV) (all : List KV) (roots : List Int) (gn : List Bool) (wb s cb vb : Nat) (x : Value) (u' : World) : Prop :=
 x = .bool true /\ Old base u0 u' /\ ∃ bb F G B t vnow vall vroots vgone xs, Lw base u' wd cnt now all roots gn wb s bb cb vb F G B t vnow vall vroots vgone xs
set_option maxRecDepth 20000 in
set_option maxHeartbeats 1000000 in
theorem does_set (X : Setup Tryz.prog fnsM outsM orcsM) (hL : Lw base u wd cnt now all roots gn wb s bb cb vb F G B t vnow vall vroots vgone xs) (hkd : I64 kd) (hk : I64 k) (hv : I64 v) (hcnt : cnt + 1 <= 5864062014700) (hj : pickN kd 8 < 4) (hV : (valN (pickN v 6)).size <= 20) :
   RunsTo Tryz.prog Orc Stop 5 #[.pointer (some ⟨wb, 0, none⟩), .agg #[.int .i64 kd, .int .i64 k, .int .i64 v]] u (Next base u wd (cnt + 1) (kput (ks (pickN k 20)) (valN (pickN v 6)) now) all roots gn wb s cb vb):= by
 intro c cs hmode K
 refine does_start X hL hkd hk fun a ob u1 hA h5 h22 h23 hS hT hL1 => ?_
 have hki : pickN k 20 < 20:= pickN_lt k 20 (by decide)
 have hval:= fun w => valueL_any v w hv.1 hv.2
 generalize hKN : keyN (pickN k 20) = KN at h5
 generalize hVN : valN (pickN v 6) = VN at *
 have hKd : KN.data.toList = ks (pickN k 20):= by rw [<- hKN]; rfl
 have hKs : Tw.S (ks (pickN k 20)) = KN:= by rw [<- hKN]; exact ks_S _
 have hksz:= keyN_size (pickN k 20) hki
 rw [hKN] at hksz
 obtain ⟨c0, c1, c2, c3, c4, c5⟩:= hL1.lw.cells
 obtain ⟨o0, o1, o2⟩:= hS.cells
 rw [show decide (pickN kd 8 < 4) = true from decide_eq_true hj] at h23
 refine LSc.c_cond (x:= dSet) (y:= dB) true (by rw [tm_eval]; exact h23) ?_
 show LSc _ _ _ (Conc.G (Frame.at _ _ (.code dSet :: _)) _) _
 refine LSc.c_seq (x:= cL dSet) (y:= cR dSet) ?_
 refine LSc.norm (fun a' u' => Da a' wb ob /\ tm a' 5 = .string KN /\ tm a' 6 = .int .i64 0 /\ MapAt Tryz.prog strT u' cb (cnt + 1) (upd F (.string (ks (pickN k 20))) (some (there VN))) /\ Tn base (fun _ => False) (· = cb) u1 u') (X.fit (by kernel_rfl))
   (fun t => Code.wp_mono ?_ (dw_7 (u:= World.on u1 t) (e0:= 0) (R:= fun w' => MapAt Tryz.prog strT w' cb (cnt + 1) (upd F (.string (ks (pickN k 20))) (some (there VN))) /\ Tn base (fun _ => False) (· = cb) u1 w') hA h5 c0 o2 hval fun w1 hB1 => ?_)) (fun a' u' t ⟨h1, h2, h3, h4, h6⟩ => ⟨h1, h2, h3, h4.same rfl, h6.on t⟩) ?_
 . rintro e a' w' h
   cases e <;> first | exact h.elim | exact h
 . have hT1 : Tn base (fun _ => False) (fun _ => False) u1 w1:= (Tn.below hB1 hL1.bound).on' _
   have hL2:= hL1.still hT1
   refine (set_any hL2.store hL2.changes (by have:= hL2.count; omega) hL2.apart.1 hksz.1 hksz.2 hV).mono ?_
   rintro e w' ⟨rfl, hM, hg⟩
   rw [hKd] at hM
   have hTc:= grown_tn hL2.changes hg hL2.lo.2.2.1 hL2.bound
   refine ⟨rfl, ⟨hM, (hT1.mono (fun _ h => h) (fun _ h => h.elim)).trans hTc⟩, ?_, ?_⟩
   . exact (show LwAt w' wb s wd vnow vall vroots vgone from hTc.cells wb _ _ _ hL2.lw (fun e => e)).cells.1
   . exact ((hS.tn hT1 (fun e => e)).tn hTc (fun e => e)).cells.2.2
 rintro a u2 ⟨hA, h5, h6, hM, hT2⟩
 have hLw2 : LwAt u2 wb s wd vnow vall vroots vgone:= hT2.cells wb _ _ _ hL1.lw (fun e => e)
 have hS2:= hS.tn hT2 (fun e => e)
 obtain ⟨p0, p1, p2⟩:= hS2.cells
 refine LSc.c_seq (x:= cL (cR dSet)) (y:= cR (cR dSet)) ?_
 refine LSc.norm (fun a' u' => Da a' wb ob /\ tm a' 5 = .string KN /\ tm a' 6 = .int .i64 0 /\ MapAt Tryz.prog strT u' cb (cnt + 1) (upd F (.string (ks (pickN k 20))) (some (there VN))) /\ Tn base (fun _ => False) (· = cb) u1 u') (X.fit (by kernel_rfl))
   (fun t => Code.wp_mono ?_ (dw_8 (u:= World.on u2 t) hA h5 h6 p2 hval hV)) (fun a' u' t ⟨h1, h2, h3, h4, h6⟩ => ⟨h1, h2, h3, h4.same rfl, h6.on t⟩) ?_
 . rintro e a' w' h
   cases e <;> first | exact h.elim | skip
   obtain ⟨h1, h2, h3, h4⟩:= h
   have hT : Tn base (fun _ => False) (fun _ => False) u2 w':= (Tn.below h4 (Nat.le_trans hL1.bound hT2.size)).on' _
   exact ⟨h1, h2, h3, hT.map (fun e => e) hM, hT2.trans (hT.mono (fun _ h => h) (fun _ h => h.elim))⟩
 rintro a u3 ⟨hA, h5, h6, hM3, hT3⟩
 have hLw3 : LwAt u3 wb s wd vnow vall vroots vgone:= hT3.cells wb _ _ _ hL1.lw (fun e => e)
 have hz3:= Nat.le_trans hL1.bound hT3.size
 have hS3:= hS.tn hT3 (fun e => e)
 have hO3 : OwnP base u3 vnow now.prs:= hT3.row (fun e => e) hL1.rnow
 refine LSc.c_seq (x:= cL (cR (cR dSet))) (y:= cR (cR (cR dSet))) ?_
 refine LSc.norm (fun a' u' => Da a' wb ob /\ tm a' 6 = .int .i64 0 /\ NowAs base u3 u' wb s wd vall vroots vgone (KV.prs (kput (ks (pickN k 20)) VN now))) (X.fit (by kernel_rfl))
   (fun t => Code.wp_mono ?_ (dw_10 (u:= World.on u3 t) (ps:= KV.prs (kput (ks (pickN k 20)) VN now)) hA h5 h6 hLw3 hL1.lo.1 hz3 hS3.cells.2.2 hval fun w1 hB1 => ?_)) (fun a' u' t ⟨h1, h2, v', h3, h4, h5⟩ => ⟨h1, h2, v', h3, h4, h5.on t⟩) ?_
 . rintro e a' w' h
   cases e <;> first | exact h.elim | skip
   obtain ⟨h1, h2, v', h3, h4, h5⟩:= h
   exact ⟨h1, h2, v', h3, h4, h5.on' _⟩
 . have hT1 : Tn base (fun _ => False) (fun _ => False) u3 w1:= (Tn.below hB1 hz3).on' _
   have hO1 : OwnP base w1 vnow now.prs:= hT1.row (fun e => e) hO3
   have hp:= put_any (w:= w1) (x:= KN) (y:= VN) hO1.row (by rw [prs_length]; have:= hL1.rowN.len; omega)
   rw [<- hKs, pput_prs] at hp
   rw [<- hKs]
   exact hp
 rintro a u4 ⟨hA, h6, v', hLw4, hO4, hT4⟩
 refine LSc.c_seq (x:= cL (cR (cR (cR dSet)))) (y:= cR (cR (cR (cR dSet)))) ?_
 refine LSc.norm (fun a' u' => Da a' wb ob /\ tm a' 4 = .bool true /\ Tn base (fun _ => False) (fun _ => False) u4 u') (X.fit (by kernel_rfl))
   (fun t => Code.wp_mono ?_ (dw_11 (u:= World.on u4 t) hA h6)) (fun a' u' t ⟨h1, h2, h3⟩ => ⟨h1, h2, h3.on t⟩) ?_
 . rintro e a' w' h
   cases e <;> first | exact h.elim | skip
   obtain ⟨h1, h2, rfl⟩:= h
   exact ⟨h1, h2, tn_on u4 t⟩
 rintro a u5 ⟨hA, h4, hT5⟩
 have hM4:= (hT4.map (fun e => e) hM3)
 have hLw:= hL1.newNow (u':= u4) ((hT3.mono (fun _ h => h.elim) (fun _ h => h)).trans (hT4.mono (fun _ h => h) (fun _ h => h.elim))) hLw4 hM4 (hL1.chg.set hL1.rowN (ks_mem _ hki) hV) (hL1.rowN.put (ks_mem _ hki) hV) hO4 hcnt
 exact does_ret hA h4 hmode (K _ _ ⟨rfl, fun k hk => ((hT5.old k hk).trans (hT4.old k hk)).trans ((hT3.old k hk).trans (hT.old k hk)), _, _, _, _, _, _, _, _, _, _, hLw.still hT5⟩)
end
section
variable [Env] [Runs] {Orc : Oracle} {Stop : Frame -> World -> Prop}
variable {base : Nat} {u : World} {wd cnt : Nat} {now : KV} {all : List KV} {roots : List Int} {gn : List Bool} {wb s bb cb vb : Nat} {F G : Lit -> Option Value} {B : KV} {t : Go.Tm.T ByteArray} {vnow vall vroots vgone : Value} {xs : List Value} {kd k v : Int}
set_option maxRecDepth 20000 in
set_option maxHeartbeats 1000000 in
theorem does_long (X : Setup Tryz.prog fnsM outsM orcsM) (hL : Lw base u wd cnt now all roots gn wb s bb cb vb F G B t vnow vall vroots vgone xs) (hkd : I64 kd) (hk : I64 k) (hv : I64 v) (hcnt : cnt + 1 <= 5864062014700) (hj : pickN kd 8 < 4) (hV : 20 < (valN (pickN v 6)).size) :
   RunsTo Tryz.prog Orc Stop 5 #[.pointer (some ⟨wb, 0, none⟩), .agg #[.int .i64 kd, .int .i64 k, .int .i64 v]] u (Next base u wd (cnt + 1) now all roots gn wb s cb vb):= by
 intro c cs hmode K
 refine does_start X hL hkd hk fun a ob u1 hA h5 h22 h23 hS hT hL1 => ?_
 have hki : pickN k 20 < 20:= pickN_lt k 20 (by decide)
 have hval:= fun w => valueL_any v w hv.1 hv.2
 generalize hKN : keyN (pickN k 20) = KN at h5
 generalize hVN : valN (pickN v 6) = VN at *
 have hksz:= keyN_size (pickN k 20) hki
 rw [hKN] at hksz
 obtain ⟨c0, c1, c2, c3, c4, c5⟩:= hL1.lw.cells
 obtain ⟨o0, o1, o2⟩:= hS.cells
 rw [show decide (pickN kd 8 < 4) = true from decide_eq_true hj] at h23
 refine LSc.c_cond (x:= dSet) (y:= dB) true (by rw [tm_eval]; exact h23) ?_
 show LSc _ _ _ (Conc.G (Frame.at _ _ (.code dSet :: _)) _) _
 refine LSc.c_seq (x:= cL dSet) (y:= cR dSet) ?_
 refine LSc.norm (fun a' u' => Da a' wb ob /\ tm a' 5 = .string KN /\ tm a' 6 = .int .i64 6 /\ Tn base (fun _ => False) (fun _ => False) u1 u') (X.fit (by kernel_rfl))
   (fun t => Code.wp_mono ?_ (dw_7 (u:= World.on u1 t) (e0:= 6) (R:= fun w' => Tn base (fun _ => False) (fun _ => False) u1 w') hA h5 c0 o2 hval fun w1 hB1 => ?_)) (fun a' u' t ⟨h1, h2, h3, h4⟩ => ⟨h1, h2, h3, h4.on t⟩) ?_
 . rintro e a' w' h
   cases e <;> first | exact h.elim | exact h
 . have hT1 : Tn base (fun _ => False) (fun _ => False) u1 w1:= (Tn.below hB1 hL1.bound).on' _
   have hL2:= hL1.still hT1
   refine (set_long hksz.1 hksz.2 hV).mono ?_
   rintro e w' ⟨rfl, rfl⟩
   exact ⟨rfl, hT1, hL2.lw.cells.1, (hS.tn hT1 (fun e => e)).cells.2.2⟩
 rintro a u2 ⟨hA, h5, h6, hT2⟩
 have hS2:= hS.tn hT2 (fun e => e)
 obtain ⟨p0, p1, p2⟩:= hS2.cells
 refine LSc.c_seq (x:= cL (cR dSet)) (y:= cR (cR dSet)) ?_
 refine LSc.c_seq (x:= cL (cL (cR dSet))) (y:= cR (cL (cR dSet))) ?_
 refine LSc.norm (fun a' u' => Da a' wb ob /\ tm a' 6 = .int .i64 6 /\ tm a' 41 = .bool true /\ Tn base (fun _ => False) (fun _ => False) u1 u') (X.fit (by kernel_rfl))
   (fun t => Code.wp_mono ?_ (dw_8' (u:= World.on u2 t) (key:= KN) hA h6 p2 hval hV)) (fun a' u' t ⟨h1, h2, h3, h4⟩ => ⟨h1, h2, h3, h4.on t⟩) ?_
 . rintro e a' w' h
   cases e <;> first | exact h.elim | skip
   obtain ⟨h1, h2, h3, h4⟩:= h
   exact ⟨h1, h2, h3, hT2.trans ((Tn.below h4 (Nat.le_trans hL1.bound hT2.size)).on' _)⟩
 rintro a u3 ⟨hA, h6, h41, hT3⟩
 refine LSc.c_cond (x:= cT (cR (cL (cR dSet)))) (y:= cE (cR (cL (cR dSet)))) true (by rw [tm_eval]; exact h41) ?_
 show LSc _ _ _ (Conc.G (Frame.at _ _ (.code (cT (cR (cL (cR dSet)))) :: _)) _) _
 refine LSc.c_seq (x:= cL (cT (cR (cL (cR dSet))))) (y:= cR (cT (cR (cL (cR dSet))))) ?_
 refine LSc.norm (fun a' u' => Da a' wb ob /\ tm a' 4 = .bool true /\ Tn base (fun _ => False) (fun _ => False) u1 u') (X.fit (by kernel_rfl))
   (fun t => Code.wp_mono ?_ (dw_9 (u:= World.on u3 t) hA h6)) (fun a' u' t ⟨h1, h2, h3⟩ => ⟨h1, h2, h3.on t⟩) ?_
 . rintro e a' w' h
   cases e <;> first | exact h.elim | skip
   obtain ⟨h1, h2, rfl⟩:= h
   exact ⟨h1, h2, hT3.on t⟩
 rintro a u4 ⟨hA, h4, hT4⟩
 exact does_ret hA h4 hmode (K _ _ ⟨rfl, fun k hk => (hT4.old k hk).trans (hT.old k hk), _, _, _, _, _, _, _, _, _, _, (hL1.still hT4).more hcnt⟩)
omit [Env] [Runs] in
theorem look_mem' {q : Bits} {v : ByteArray} : ∀ {l : List (Bits × ByteArray)}, Tm.look q l = some v -> (q, v) ∈ l
 | [], h => by cases h
 | x :: l, h => by
   simp only [Tm.look] at h
   split at h
   . rename_i e
     cases h; cases e; exact List.mem_cons_self
   . exact List.mem_cons_of_mem _ (look_mem' h)
omit [Env] [Runs] in
theorem delS_any (hL : Lw base u wd cnt now all roots gn wb s bb cb vb F G B t vnow vall vroots vgone xs) {key : List UInt8} (hk : key ∈ kall) (hcnt : cnt + 1 <= 5864062014700) :
   ∃ F', Chg F' B (kwo key now) /\ Calls Tryz.prog 17 #[.pointer (some ⟨s, 0, none⟩), .string (Tw.S key)] u fun e w' => e = .returned (.int .i64 (if (khas key now).isSome then 0 else 7)) /\ MapAt Tryz.prog strT w' cb (cnt + 1) F' /\ Tn base (fun _ => False) (· = cb) u w':= by
 have hsz : 1 <= (Tw.S key).size /\ (Tw.S key).size <= 4:= by
   have:= kall_size key hk
   have h2 : (Tw.S key).size = key.length:= by simp [Tw.S, ByteArray.size]
   have h3 : key.length ≠ 0:= fun e => this.1 (List.length_eq_zero_iff.1 e)
   omega
 have hf : Fits t (kb (Tw.S key).data.toList):= by rw [S_data]; exact hL.rowB.fits hL.rep hk
 have hvs : ∀ q v, t.get q = some v -> v.size <= 1000000:= fun q v e => by
   rw [rep_get hL.rep] at e
   have:= look_mem' e
   obtain ⟨y, hy, e2⟩:= List.mem_map.1 this
   have h3:= (hL.rowB.keys y hy).2
   have : y.2 = v:= congrArg Prod.snd e2
   rw [this] at h3; omega
 have hg:= getS_any (dg:= dgw wd) hL.store hL.changes hL.tree hf hL.chg.tells hvs hsz.1 hsz.2
 rw [S_data, nowHas_eq hL.rep, <- hL.chg.now] at hg
 have hbits : ∀ w, Calls Tryz.prog 32 #[.string (Tw.S key)] w fun e w' => e = .returned (.string (str (kb key))) /\ Below w.heap.size w w':= fun w => by
   have:= bits_any (Tw.S key) w hsz.2
   rw [S_data] at this
   exact this
 have hget : ∀ w1, TAt (dgw wd) w1 t bb -> Calls Tryz.prog 31 #[.pointer (ptr bb), .string (str (kb key))] w1 fun e w' => e = .returned (gotten (khas key B)) /\ ∃ n, w' = w1.drewN n:= fun w1 h => by
   have:= get_any (by rw [S_data] at hf; exact hf) h
   rw [rep_get hL.rep, show Tm.look (kb key) B.bits = khas key B from bits_has key B] at this
   exact this
 cases hnow : khas key now with
 | none =>
   rw [hnow] at hg
   refine ⟨F, by rw [kwo_same hnow]; exact hL.chg, (delete_no hg).mono ?_⟩
   rintro e w' ⟨rfl, hB⟩
   exact ⟨rfl, (hL.changes.same (hB.block cb hL.changes.lt)).mono (Nat.le_succ _), Tn.below hB hL.bound⟩
 | some x =>
   rw [hnow] at hg
   cases hb : khas key B with
   | none =>
     rw [hb] at hget
     refine ⟨_, hL.chg.forget hb, (delete_new (dg:= dgw wd) hL.store hL.changes hL.tree hsz.2 hg hbits hget).mono ?_⟩
     rintro e w' ⟨rfl, hM, hgr⟩
     rw [S_data] at hM
     exact ⟨rfl, hM.mono (Nat.le_succ _), grown_tn hL.changes hgr hL.lo.2.2.1 hL.bound⟩
   | some y =>
     rw [hb] at hget
     refine ⟨_, hL.chg.drop hk (by rw [hb]; exact fun e => by cases e), (delete_old (dg:= dgw wd) hL.store hL.changes (by have:= hL.count; omega) hL.apart.1 hL.tree hsz.2 hg hbits hget).mono ?_⟩
     rintro e w' ⟨rfl, hM, hgr⟩
     rw [S_data] at hM
     exact ⟨rfl, hM, grown_tn hL.changes hgr hL.lo.2.2.1 hL.bound⟩
set_option maxRecDepth 20000 in
set_option maxHeartbeats 1000000 in
theorem does_del (X : Setup Tryz.prog fnsM outsM orcsM) (hL : Lw base u wd cnt now all roots gn wb s bb cb vb F G B t vnow vall vroots vgone xs) (hkd : I64 kd) (hk : I64 k) (hv : I64 v) (hcnt : cnt + 1 <= 5864062014700) (hj : pickN kd 8 = 4) :
   RunsTo Tryz.prog Orc Stop 5 #[.pointer (some ⟨wb, 0, none⟩), .agg #[.int .i64 kd, .int .i64 k, .int .i64 v]] u (Next base u wd (cnt + 1) (kwo (ks (pickN k 20)) now) all roots gn wb s cb vb):= by
 intro c cs hmode K
 refine does_start X hL hkd hk fun a ob u1 hA h5 h22 h23 hS hT hL1 => ?_
 have hki : pickN k 20 < 20:= pickN_lt k 20 (by decide)
 rw [<- ks_S] at h5
 have hkm:= ks_mem _ hki
 generalize ks (pickN k 20) = key at *
 obtain ⟨c0, c1, c2, c3, c4, c5⟩:= hL1.lw.cells
 rw [show decide (pickN kd 8 < 4) = false from decide_eq_false (by omega)] at h23
 refine LSc.c_cond (x:= dSet) (y:= dB) false (by rw [tm_eval]; exact h23) ?_
 show LSc _ _ _ (Conc.G (Frame.at _ _ (.code dB :: _)) _) _
 refine LSc.c_seq (x:= cL dB) (y:= cR dB) ?_
 refine LSc.norm (fun a' u' => Da a' wb ob /\ tm a' 5 = .string (Tw.S key) /\ tm a' 59 = .bool true /\ Tn base (fun _ => False) (fun _ => False) u1 u') (X.fit (by kernel_rfl))
   (fun t => Code.wp_mono ?_ (dw_12 (u:= World.on u1 t) hA h5 h22 (pickN_lt kd 8 (by decide)))) (fun a' u' t ⟨h1, h2, h3, h4⟩ => ⟨h1, h2, h3, h4.on t⟩) ?_
 . rintro e a' w' h
   cases e <;> first | exact h.elim | skip
   obtain ⟨h1, h2, h3, h4, rfl⟩:= h
   exact ⟨h1, h2, by rw [h4, decide_eq_true hj], tn_on u1 t⟩
 rintro a u2 ⟨hA, h5, h59, hT2⟩
 have hL2:= hL1.still hT2
 obtain ⟨p0, p1, p2, p3, p4, p5⟩:= hL2.lw.cells
 refine LSc.c_cond (x:= dDel) (y:= dB2) true (by rw [tm_eval]; exact h59) ?_
 show LSc _ _ _ (Conc.G (Frame.at _ _ (.code dDel :: _)) _) _
 refine LSc.c_seq (x:= cL dDel) (y:= cR dDel) ?_
 obtain ⟨g0, hgt⟩ : ∃ g0, gotten (khas key now) = .tuple #[.string g0, .bool (khas key now).isSome]:= by
   cases khas key now with
   | none => exact ⟨_, rfl⟩
   | some x => exact ⟨_, rfl⟩
 have hhas : ∀ tp, Calls Tryz.prog 6 #[vnow, .string (Tw.S key)] (World.on u2 tp) fun e w' => e = .returned (.tuple #[.string g0, .bool (khas key now).isSome]) /\ w' = World.on u2 tp:= fun tp => by
   have:= has_any (w:= World.on u2 tp) (k:= Tw.S key) (OwnP.row (hL2.still (tn_on u2 tp)).rnow) (by rw [prs_length]; have:= hL1.rowN.len; omega)
   rw [phas_prs, hgt] at this
   exact this
 have hvs : ∃ p n c, vnow = .slice p n c:= by obtain ⟨p, c, e⟩:= row_form hL2.rnow; exact ⟨p, _, c, e⟩
 refine LSc.norm (fun a' u' => Da a' wb ob /\ tm a' 5 = .string (Tw.S key) /\ tm a' 8 = .bool (khas key now).isSome /\ Tn base (fun _ => False) (fun _ => False) u1 u') (X.fit (by kernel_rfl))
   (fun t => Code.wp_mono ?_ (dw_13 (u:= World.on u2 t) hA h5 p2 (hhas t) hvs)) (fun a' u' t ⟨h1, h2, h3, h4⟩ => ⟨h1, h2, h3, h4.on t⟩) ?_
 . rintro e a' w' h
   cases e <;> first | exact h.elim | skip
   obtain ⟨h1, h2, h3, rfl⟩:= h
   exact ⟨h1, h2, h3, hT2.on t⟩
 rintro a u3 ⟨hA, h5, h8, hT3⟩
 have hL3:= hL1.still hT3
 obtain ⟨F', hC', _⟩:= delS_any hL3 hkm hcnt
 refine LSc.c_seq (x:= cL (cR dDel)) (y:= cR (cR dDel)) ?_
 refine LSc.norm (fun a' u' => Da a' wb ob /\ tm a' 5 = .string (Tw.S key) /\ tm a' 8 = .bool (khas key now).isSome /\ tm a' 9 = .int .i64 (if (khas key now).isSome then 0 else 7) /\ ∃ F', Chg F' B (kwo key now) /\ MapAt Tryz.prog strT u' cb (cnt + 1) F' /\ Tn base (fun _ => False) (· = cb) u3 u') (X.fit (by kernel_rfl))
   (fun t => ?_) (fun a' u' t ⟨h1, h2, h3, h4, F', h6, h7, h8⟩ => ⟨h1, h2, h3, h4, F', h6, h7.same rfl, h8.on t⟩) ?_
 . have hLt:= hL3.still (tn_on u3 t)
   obtain ⟨F2, hC2, hdel⟩:= delS_any hLt hkm hcnt
   refine Code.wp_mono ?_ (dw_14 (u:= World.on u3 t) hA h5 h8 hLt.lw.cells.1 hdel)
   rintro e a' w' h
   cases e <;> first | exact h.elim | skip
   obtain ⟨h1, h2, h3, h4, h6, h7⟩:= h
   exact ⟨h1, h2, h3, h4, F2, hC2, h6, h7.on' _⟩
 rintro a u4 ⟨hA, h5, h8, h9, F2, hC2, hM4, hT4⟩
 have hLw4 : LwAt u4 wb s wd vnow vall vroots vgone:= hT4.cells wb _ _ _ hL3.lw (fun e => e)
 have hz4:= Nat.le_trans hL3.bound hT4.size
 have hO4 : OwnP base u4 vnow now.prs:= hT4.row (fun e => e) hL3.rnow
 refine LSc.c_seq (x:= cL (cR (cR dDel))) (y:= cR (cR (cR dDel))) ?_
 refine LSc.norm (fun a' u' => Da a' wb ob /\ tm a' 8 = .bool (khas key now).isSome /\ tm a' 9 = .int .i64 (if (khas key now).isSome then 0 else 7) /\ NowAs base u4 u' wb s wd vall vroots vgone (KV.prs (kwo key now))) (X.fit (by kernel_rfl))
   (fun t => Code.wp_mono ?_ (dw_15 (u:= World.on u4 t) (ps:= KV.prs (kwo key now)) hA h5 h8 h9 hLw4 hL3.lo.1 hz4 ?_)) (fun a' u' t ⟨h1, h2, h3, v', h4, h5, h6⟩ => ⟨h1, h2, h3, v', h4, h5, h6.on t⟩) ?_
 . rintro e a' w' h
   cases e <;> first | exact h.elim | skip
   obtain ⟨h1, h2, h3, v', h4, h5, h6⟩:= h
   exact ⟨h1, h2, h3, v', h4, h5, h6.on' _⟩
 . have hp:= without_row (w:= World.on u4 t) (k:= Tw.S key) (OwnP.row (show OwnP base (World.on u4 t) vnow now.prs from (tn_on (base:= base) (T:= fun _ => False) (M:= fun _ => False) u4 t).row (fun e => e) hO4)) (by rw [prs_length]; have:= hL1.rowN.len; omega)
   rw [pwo_prs] at hp
   exact hp
 rintro a u5 ⟨hA, h8, h9, v', hLw5, hO5, hT5⟩
 refine LSc.c_seq (x:= cL (cR (cR (cR dDel)))) (y:= cR (cR (cR (cR dDel)))) ?_
 refine LSc.norm (fun a' u' => Da a' wb ob /\ tm a' 4 = .bool true /\ Tn base (fun _ => False) (fun _ => False) u5 u') (X.fit (by kernel_rfl))
   (fun t => Code.wp_mono ?_ (dw_16 (u:= World.on u5 t) hA h8 h9)) (fun a' u' t ⟨h1, h2, h3⟩ => ⟨h1, h2, h3.on t⟩) ?_
 . rintro e a' w' h
   cases e <;> first | exact h.elim | skip
   obtain ⟨h1, h2, rfl⟩:= h
   exact ⟨h1, h2, tn_on u5 t⟩
 rintro a u6 ⟨hA, h4, hT6⟩
 have hLw:= hL3.newNow (u':= u5) ((hT4.mono (fun _ h => h.elim) (fun _ h => h)).trans (hT5.mono (fun _ h => h) (fun _ h => h.elim))) hLw5 (hT5.map (fun e => e) hM4) hC2 (hL1.rowN.wo _) hO5 hcnt
 exact does_ret hA h4 hmode (K _ _ ⟨rfl, fun k hk => (((hT6.old k hk).trans (hT5.old k hk)).trans (hT4.old k hk)).trans ((hT3.old k hk).trans (hT.old k hk)), _, _, _, _, _, _, _, _, _, _, hLw.still hT6⟩)
end
end Go.Proofs.YtddcbeeldjjmeaaGreat
namespace Go.Eq
open Go Go.Conc Go.Nest
theorem LSc.ext' [Env] [Runs] {P : Program} {Orc : Oracle} {Stop : Frame -> World -> Prop} {u : World} {b : Frame} {a : Act} {k : List Item} {cs : List Frame} {ops : Array Oper} {i : Nat} {rest : List Nat} {o : Oper} (d : Nat) (v : Value) (x : Operand) (n : Nat) (vs : Array Value) (hk : b.kind = .normal) (hf : ¬ Runs.orc o) (ho : ops[i]? = some o) (hg : o.guard = none) (hd : o.dst = some d) (hop : o.op = .extract x n) (hx : a.eval x = .tuple vs) (hv : vs[n]? = some v)
   (K : LSc P Orc Stop (Conc.G (b.at (a.put (some d) v) (.inRegion ops rest :: k)) cs) u) : LSc P Orc Stop (Conc.G (b.at a (.inRegion ops (i :: rest) :: k)) cs) u :=
 LSc.val (v:= v) (u':= u) hf ho (wanted_none hg _) (by rw [hk]; decide) (fun t => by simp [execOp, hop, hx, Instr.extract, hv]) (by rw [hd]; exact K)
end Go.Eq
namespace Go.Proofs.YtddcbeeldjjmeaaGreat
open Go Go.Conc Go.RowKit Go.Nest Go.Tm Go.Proofs.YtddcbeeldjjmeaaGreat.Tw Go.Maps Go.Sort Go.Shelf Go.Eq
set_option linter.unusedVariables false
set_option linter.unusedSimpArgs false
section
variable [Env] [Runs] {Orc : Oracle} {Stop : Frame -> World -> Prop}
variable {base : Nat} {u : World} {wd cnt : Nat} {now : KV} {all : List KV} {roots : List Int} {gn : List Bool} {wb s bb cb vb : Nat} {F G : Lit -> Option Value} {B : KV} {t : Go.Tm.T ByteArray} {vnow vall vroots vgone : Value} {xs : List Value} {kd k v : Int}
set_option maxRecDepth 20000 in
set_option maxHeartbeats 1000000 in
theorem does_commit (X : Setup Tryz.prog fnsM outsM orcsM) (hO : Answers Orc) (hL : Lw base u wd cnt now all roots gn wb s bb cb vb F G B t vnow vall vroots vgone xs) (hkd : I64 kd) (hk : I64 k) (hv : I64 v) (hcnt : cnt + 1 <= 5864062014700) (hj : pickN kd 8 = 5) :
   RunsTo Tryz.prog Orc Stop 5 #[.pointer (some ⟨wb, 0, none⟩), .agg #[.int .i64 kd, .int .i64 k, .int .i64 v]] u (fun x u' => ∃ r, Next base u wd (cnt + 1) now (all ++ [now]) (roots ++ [r]) (gn ++ [false]) wb s cb vb x u'):= by
 intro c cs hmode K
 refine does_start X hL hkd hk fun a ob u1 hA h5 h22 h23 hS hT hL1 => ?_
 have hw:= hL1.wide
 rw [show decide (pickN kd 8 < 4) = false from decide_eq_false (by omega)] at h23
 refine LSc.c_cond (x:= dSet) (y:= dB) false (by rw [tm_eval]; exact h23) ?_
 show LSc _ _ _ (Conc.G (Frame.at _ _ (.code dB :: _)) _) _
 refine LSc.c_seq (x:= cL dB) (y:= cR dB) ?_
 refine LSc.norm (fun a' u' => Da a' wb ob /\ (∃ K0, tm a' 5 = .string K0) /\ tm a' 22 = .int .i64 (pickN kd 8) /\ tm a' 59 = .bool false /\ Tn base (fun _ => False) (fun _ => False) u1 u') (X.fit (by kernel_rfl))
   (fun t => Code.wp_mono ?_ (dw_12 (u:= World.on u1 t) hA h5 h22 (pickN_lt kd 8 (by decide)))) (fun a' u' t ⟨h1, h2, h3, h4, h6⟩ => ⟨h1, h2, h3, h4, h6.on t⟩) ?_
 . rintro e a' w' h
   cases e <;> first | exact h.elim | skip
   obtain ⟨h1, h2, h3, h4, rfl⟩:= h
   exact ⟨h1, ⟨_, h2⟩, h3, by rw [h4, decide_eq_false (by omega)], tn_on u1 t⟩
 rintro a u2 ⟨hA, ⟨K0, h5⟩, h22, h59, hT2⟩
 refine LSc.c_cond (x:= dDel) (y:= dB2) false (by rw [tm_eval]; exact h59) ?_
 show LSc _ _ _ (Conc.G (Frame.at _ _ (.code dB2 :: _)) _) _
 refine LSc.c_seq (x:= cL dB2) (y:= cR dB2) ?_
 refine LSc.norm (fun a' u' => Da a' wb ob /\ tm a' 89 = .bool true /\ Tn base (fun _ => False) (fun _ => False) u1 u') (X.fit (by kernel_rfl))
   (fun t => Code.wp_mono ?_ (dw_17 (u:= World.on u2 t) hA h5 h22 (pickN_lt kd 8 (by decide)))) (fun a' u' t ⟨h1, h2, h3⟩ => ⟨h1, h2, h3.on t⟩) ?_
 . rintro e a' w' h
   cases e <;> first | exact h.elim | skip
   obtain ⟨h1, h2, h3, rfl⟩:= h
   exact ⟨h1, by rw [h3, decide_eq_true hj], hT2.on t⟩
 rintro a u3 ⟨hA, h89, hT3⟩
 have hL3:= hL1.still hT3
 obtain ⟨c0, c1, c2, c3, c4, c5⟩:= hL3.lw.cells
 have hsz:= hA.size
 refine LSc.c_cond (x:= dCom) (y:= cE (cR dB2)) true (by rw [tm_eval]; exact h89) ?_
 show LSc _ _ _ (Conc.G (Frame.at _ _ (.code dCom :: _)) _) _
 refine LSc.c_seq (x:= cL dCom) (y:= cR dCom) ?_
 refine LSc.c_region (ops:= opsOf (cL dCom)) ?_
 show LSc _ _ _ (Conc.G (Frame.at _ _ (.inRegion _ [0, 1, 2, 3, 4, 5, 6, 7, 8, 9, 10, 11] :: _)) _) _
 refine LSc.mv 92 (.pointer (some ⟨wb, 0, none⟩)) (.tmp 0) rfl (X.free (by rfl)) rfl rfl rfl (.inl rfl) (by rw [tm_eval]; exact hA.w) ?_
 refine LSc.nilc 93 (.tmp 92) ⟨wb, 0, none⟩ rfl (X.free (by rfl)) rfl rfl rfl rfl (by rw [tm_eval, tm_eq (by simp [Eq.size_put, hsz])]) ?_
 refine LSc.fld 94 (.tmp 93) lwT 0 ⟨wb, 0, none⟩ ⟨wb, 0, none⟩ rfl (X.free (by rfl)) rfl rfl rfl rfl (by rw [tm_eval, tm_eq (by simp [Eq.size_put, hsz])]) (by intro w; simp [go_sem]) ?_
 refine LSc.ld 95 (.tmp 94) 30 ⟨wb, 0, none⟩ (.pointer (some ⟨s, 0, none⟩)) rfl (X.free (by rfl)) rfl rfl rfl rfl (by rw [tm_eval, tm_eq (by simp [Eq.size_put, hsz])]) (by intro t'; have d0' : (World.on u3 t').cell? ⟨wb, 0, none⟩ = some (.pointer (some ⟨s, 0, none⟩)):= c0; simp [go_sem, d0']) ?_
 refine LSc.enterAt (f:= 19) (args:= #[.tmp 95]) (vs:= #[.pointer (some ⟨s, 0, none⟩)]) rfl rfl rfl rfl Tryz.func19 (by rfl) rfl (by intro x hx; simp at hx; subst hx; trivial)
   (by simp [tm_eval, tm_eq, tm_ne, Eq.size_put, hsz]) ((X.runs _).2 (.inr (by decide))) ?_
 have hcn:= hL3.count
 refine commit_runs X hO hL3.store hL3.changes (by omega) hL3.versions (by omega) hL3.apart.1 hL3.apart.2.1 hL3.apart.2.2 (by omega) (by omega) hL3.tree hL3.rep hL3.rowB hL3.chg hL3.rowN hw.2 _ _ (fun v ch e => by rw [Frame.finish_at] at e; cases e) ?_
 rintro x u4 ⟨r, ti, rfl, hS4, hM4, hV4, hSd4, hR4, hG4⟩
 rw [Frame.finish_at]
 show LSc _ _ _ (Conc.G (Frame.at _ (Act.put _ (some 96) _) (.inRegion _ [5, 6, 7, 8, 9, 10, 11] :: _)) _) _
 refine LSc.mv 91 _ (.tmp 96) rfl (X.free (by rfl)) rfl rfl rfl (.inl rfl) (by rw [tm_eval, tm_eq (by simp [Eq.size_put, hsz])]) ?_
 refine LSc.ext' 97 (.int .i64 ((all.length : Int) + 1)) (.tmp 91) 0 _ rfl (X.free (by rfl)) rfl rfl rfl rfl (by rw [tm_eval, tm_eq (by simp [Eq.size_put, hsz])]) rfl ?_
 refine LSc.ext' 98 (.int .i64 (Tr.dig (dgw wd) ti.tr)) (.tmp 91) 1 _ rfl (X.free (by rfl)) rfl rfl rfl rfl (by rw [tm_eval, tm_ne (by decide), tm_eq (by simp [Eq.size_put, hsz])]) rfl ?_
 refine LSc.ext' 99 (.int .i64 0) (.tmp 91) 2 _ rfl (X.free (by rfl)) rfl rfl rfl rfl (by rw [tm_eval, tm_ne (by decide), tm_ne (by decide), tm_eq (by simp [Eq.size_put, hsz])]) rfl ?_
 refine LSc.mv 10 (.int .i64 ((all.length : Int) + 1)) (.tmp 97) rfl (X.free (by rfl)) rfl rfl rfl (.inr rfl) (by rw [tm_eval, tm_ne (by decide), tm_ne (by decide), tm_eq (by simp [Eq.size_put, hsz])]) ?_
 refine LSc.mv 11 (.int .i64 (Tr.dig (dgw wd) ti.tr)) (.tmp 98) rfl (X.free (by rfl)) rfl rfl rfl (.inr rfl) (by rw [tm_eval, tm_ne (by decide), tm_ne (by decide), tm_eq (by simp [Eq.size_put, hsz])]) ?_
 refine LSc.mv 12 (.int .i64 0) (.tmp 99) rfl (X.free (by rfl)) rfl rfl rfl (.inr rfl) (by rw [tm_eval, tm_ne (by decide), tm_ne (by decide), tm_eq (by simp [Eq.size_put, hsz])]) ?_
 refine LSc.c_rend ?_
 have hTc : Tn base (· = stT) (fun k => k = cb \/ k = vb) u3 u4:= by
   refine Tn.gw hG4 hL3.bound (fun k cs ty fr hk hc => ?_) (fun k es cl hk hc => ?_) (fun k hk => ?_)
   . rcases hk with rfl | rfl | rfl
     . have:= hL3.store; unfold StoreAt at this; rw [this] at hc; cases hc; rfl
     . obtain ⟨D, ⟨es0, cl0, e0, _⟩, _⟩:= hL3.changes; rw [e0] at hc; cases hc
     . obtain ⟨D, ⟨es0, cl0, e0, _⟩, _⟩:= hL3.versions; rw [e0] at hc; cases hc
   . rcases hk with rfl | rfl | rfl
     . have:= hL3.store; unfold StoreAt at this; rw [this] at hc; cases hc
     . exact .inl rfl
     . exact .inr rfl
   . rcases hk with rfl | rfl | rfl
     . exact hL3.lo.2.1
     . exact hL3.lo.2.2.1
     . exact hL3.lo.2.2.2
 generalize hact : Act.put (Act.put (Act.put _ _ _) _ _) (some 12) _ = a4
 have hA4 : Da a4 wb ob /\ tm a4 10 = .int .i64 ((all.length : Int) + 1) /\ tm a4 11 = .int .i64 (Tr.dig (dgw wd) ti.tr) /\ tm a4 12 = .int .i64 0:= by
   rw [<- hact]
   refine ⟨⟨by simp [Eq.size_put, hsz], by simp [defers_put, hA.defers], by simp [tm_ne, hA.w], by simp [tm_ne, hA.o]⟩, ?_, ?_, ?_⟩
   . rw [tm_ne (by decide), tm_ne (by decide), tm_eq (by simp [Eq.size_put, hsz])]
   . rw [tm_ne (by decide), tm_eq (by simp [Eq.size_put, hsz])]
   . rw [tm_eq (by simp [Eq.size_put, hsz])]
 clear hact
 obtain ⟨hA, h10, h11, h12⟩:= hA4
 have hLw4 : LwAt u4 wb s wd vnow vall vroots vgone:= hTc.cells wb _ _ _ hL3.lw (by decide)
 have hz4:= Nat.le_trans hL3.bound hTc.size
 have hr4 : u4.ownsRow base prsT 1 vall all.length xs:= hTc.row (by decide) hL3.rall
 have hvs : ∃ p n c, vnow = .slice p n c:= by obtain ⟨p, c, e⟩:= row_form hL3.rnow; exact ⟨p, _, c, e⟩
 refine LSc.c_seq (x:= cL (cR dCom)) (y:= cR (cR dCom)) ?_
 refine LSc.norm (fun a' u' => Da a' wb ob /\ tm a' 10 = .int .i64 ((all.length : Int) + 1) /\ tm a' 11 = .int .i64 (Tr.dig (dgw wd) ti.tr) /\ tm a' 12 = .int .i64 0 /\ AllAs base u4 u' wb s wd vnow vroots vgone all.length xs) (X.fit (by kernel_rfl))
   (fun t => Code.wp_mono ?_ (dw_19 (u:= World.on u4 t) hA h10 h11 h12 hLw4 hL3.lo.1 hz4 hr4 (by omega) hvs)) (fun a' u' t ⟨h1, h2, h3, h4, v', h6, h7, h8⟩ => ⟨h1, h2, h3, h4, v', h6, h7, h8.on t⟩) ?_
 . rintro e a' w' h
   cases e <;> first | exact h.elim | skip
   obtain ⟨h1, h2, h3, h4, v', h6, h7, h8⟩:= h
   exact ⟨h1, h2, h3, h4, v', h6, h7, h8.on' _⟩
 rintro a u5 ⟨hA, h10, h11, h12, va, hLw5, hra, hT5⟩
 have hz5:= Nat.le_trans hz4 hT5.size
 have hr5 : u5.ownsRow base intT 1 vroots all.length (roots.map (Value.int .i64)):= hT5.row (by decide) (hTc.row (by decide) hL3.rroots)
 refine LSc.c_seq (x:= cL (cR (cR dCom))) (y:= cR (cR (cR dCom))) ?_
 refine LSc.norm (fun a' u' => Da a' wb ob /\ tm a' 10 = .int .i64 ((all.length : Int) + 1) /\ tm a' 12 = .int .i64 0 /\ RootsAs base u5 u' wb s wd vnow va vgone all.length (roots.map (Value.int .i64) ++ [Value.int .i64 (Tr.dig (dgw wd) ti.tr)])) (X.fit (by kernel_rfl))
   (fun t => Code.wp_mono ?_ (dw_20 (u:= World.on u5 t) hA h10 h11 h12 hLw5 hL3.lo.1 hz5 hr5 (by omega))) (fun a' u' t ⟨h1, h2, h4, v', h6, h7, h8⟩ => ⟨h1, h2, h4, v', h6, h7, h8.on t⟩) ?_
 . rintro e a' w' h
   cases e <;> first | exact h.elim | skip
   obtain ⟨h1, h2, h4, v', h6, h7, h8⟩:= h
   exact ⟨h1, h2, h4, v', h6, h7, h8.on' _⟩
 rintro a u6 ⟨hA, h10, h12, vr, hLw6, hrr, hT6⟩
 have hz6:= Nat.le_trans hz5 hT6.size
 have hr6 : u6.ownsRow base boolT 1 vgone all.length (gn.map Value.bool):= hT6.row (by decide) (hT5.row (by decide) (hTc.row (by decide) hL3.rgone))
 refine LSc.c_seq (x:= cL (cR (cR (cR dCom)))) (y:= cR (cR (cR (cR dCom)))) ?_
 refine LSc.norm (fun a' u' => Da a' wb ob /\ tm a' 10 = .int .i64 ((all.length : Int) + 1) /\ tm a' 12 = .int .i64 0 /\ GoneAs base u6 u' wb s wd vnow va vr all.length (gn.map Value.bool ++ [Value.bool false])) (X.fit (by kernel_rfl))
   (fun t => Code.wp_mono ?_ (dw_21 (u:= World.on u6 t) hA h10 h12 hLw6 hL3.lo.1 hz6 hr6 (by omega))) (fun a' u' t ⟨h1, h2, h4, v', h6, h7, h8⟩ => ⟨h1, h2, h4, v', h6, h7, h8.on t⟩) ?_
 . rintro e a' w' h
   cases e <;> first | exact h.elim | skip
   obtain ⟨h1, h2, h4, v', h6, h7, h8⟩:= h
   exact ⟨h1, h2, h4, v', h6, h7, h8.on' _⟩
 rintro a u7 ⟨hA, h10, h12, vg, hLw7, hrg, hT7⟩
 have hra7 : u7.ownsRow base prsT 1 va (all.length + 1) (xs ++ [vnow]):= hT7.row (by decide) (hT6.row (by decide) hra)
 have hrr7 : u7.ownsRow base intT 1 vr (all.length + 1) (roots.map (Value.int .i64) ++ [Value.int .i64 (Tr.dig (dgw wd) ti.tr)]):= hT7.row (by decide) hrr
 obtain ⟨ap, ac, rfl⟩:= row_form hra7
 refine LSc.c_seq (x:= cL (cR (cR (cR (cR dCom))))) (y:= cR (cR (cR (cR (cR dCom))))) ?_
 refine LSc.norm (fun a' u' => Da a' wb ob /\ tm a' 4 = .bool true /\ Tn base (fun _ => False) (fun _ => False) u7 u') (X.fit (by kernel_rfl))
   (fun t => Code.wp_mono ?_ (dw_22 (u:= World.on u7 t) (n:= all.length + 1) hA h10 h12 hLw7.cells.2.2.2.1)) (fun a' u' t ⟨h1, h2, h3⟩ => ⟨h1, h2, h3.on t⟩) ?_
 . rintro e a' w' h
   cases e <;> first | exact h.elim | skip
   obtain ⟨h1, h2, rfl⟩:= h
   exact ⟨h1, h2, tn_on u7 t⟩
 rintro a u8 ⟨hA, h4, hT8⟩
 have hT47 : Tn base (fun ty => ty = lwT \/ ty = prsT \/ ty = intT \/ ty = boolT) (fun _ => False) u4 u7 :=
   ((hT5.mono (fun _ h => h.imp id .inl) (fun _ h => h)).trans (hT6.mono (fun _ h => h.imp id fun h => .inr (.inl h)) (fun _ h => h))).trans (hT7.mono (fun _ h => h.imp id fun h => .inr (.inr h)) (fun _ h => h))
 have hT37 : Tn base (fun ty => ty = stT \/ ty = lwT \/ ty = prsT \/ ty = intT \/ ty = boolT) (fun k => k = cb \/ k = vb) u3 u7 :=
   (hTc.mono (fun _ h => .inl h) (fun _ h => h)).trans (hT47.mono (fun _ h => .inr h) (fun _ h => h.elim))
 have hLw:= hL3.commit (x:= r) (ti:= ti) hT37 (hT47.store (by decide) hS4) (hT47.map (fun e => e) hM4) (hT47.map (fun e => e) hV4) (hT47.sd (by decide) hSd4) hR4 hLw7 hra7 hrr7 hrg hcnt
 exact does_ret hA h4 hmode (K _ _ ⟨_, rfl, fun k hk => (((hT8.old k hk).trans (hT47.old k hk)).trans (hTc.old k hk)).trans ((hT3.old k hk).trans (hT.old k hk)), _, _, _, _, _, _, _, _, _, _, hLw.still hT8⟩)
end
end Go.Proofs.YtddcbeeldjjmeaaGreat
