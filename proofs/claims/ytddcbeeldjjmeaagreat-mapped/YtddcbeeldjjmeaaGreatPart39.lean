/- ONE STEP OF THE LAW's STORE, whole: a version is. -/
import Derived.Test.YtddcbeeldjjmeaaGreatPart38
namespace Go.Proofs.YtddcbeeldjjmeaaGreat
open Go Go.Conc Go.RowKit Go.Nest Go.Tm Go.Proofs.YtddcbeeldjjmeaaGreat.Tw Go.Maps Go.Sort Go.Shelf Go.Eq
set_option linter.unusedVariables false
set_option linter.unusedSimpArgs false
theorem upd_none {G : Lit -> Option Value} {k : Lit} (h : G k = none) : upd G k none = G:= by
 funext j
 unfold upd
 split
 . rename_i e; rw [e, h]
 . rfl
section
variable {base : Nat} {u : World} {wd cnt : Nat} {now : KV} {all : List KV} {roots : List Int} {gn : List Bool} {wb s bb cb vb : Nat} {F G : Lit -> Option Value} {B : KV} {t : Go.Tm.T ByteArray} {vnow vall vroots vgone : Value} {xs : List Value} {kd k v : Int}
theorem ver_yes (hL : Lw base u wd cnt now all roots gn wb s bb cb vb F G B t vnow vall vroots vgone xs) {m x : Nat} (hm : m < all.length) (hG : G (.int .i64 ((m : Int) + 1)) = some (.pointer (ptr x))) :
   Calls Tryz.prog 25 #[.pointer (some ⟨s, 0, none⟩), .int .i64 ((m : Int) + 1)] u fun e w' => e = .returned (.tuple #[.pointer (ptr x), .int .i64 0]) /\ w' = u :=
 version_yes hL.store hL.versions (by omega) (by have:= hL.count; omega) hG
theorem ver_no (hL : Lw base u wd cnt now all roots gn wb s bb cb vb F G B t vnow vall vroots vgone xs) {m : Nat} (hm : m < all.length) (hG : G (.int .i64 ((m : Int) + 1)) = none) :
   Calls Tryz.prog 25 #[.pointer (some ⟨s, 0, none⟩), .int .i64 ((m : Int) + 1)] u fun e w' => e = .returned (.tuple #[.pointer none, .int .i64 9]) /\ w' = u :=
 version_no hL.store hL.versions (by omega) (by omega) (by have:= hL.count; omega) hG
theorem pruneS_any (hL : Lw base u wd cnt now all roots gn wb s bb cb vb F G B t vnow vall vroots vgone xs) {m : Nat} (hm : m < all.length) {g : Bool} (hg : gn[m]? = some g) :
   Calls Tryz.prog 20 #[.pointer (some ⟨s, 0, none⟩), .int .i64 ((m : Int) + 1)] u fun e w' => e = .returned (.int .i64 (if g then 9 else 0)) /\ MapAt Tryz.prog intT w' vb cnt (upd G (.int .i64 ((m : Int) + 1)) none) /\ Tn base (fun _ => False) (· = vb) u w':= by
 obtain ⟨r, g', h1, h2, h3, h4⟩:= hL.vers m hm
 rw [hg] at h2
 cases h2
 rcases h4 with ⟨rfl, hG⟩ | ⟨rfl, x, ti, hG, _⟩
 . refine (prune_no (ver_no hL hm hG)).mono ?_
   rintro e w' ⟨rfl, rfl⟩
   exact ⟨rfl, by rw [upd_none hG]; exact hL.versions, Tn.refl _⟩
 . refine (prune_yes hL.store hL.versions (by omega) (by have:= hL.count; omega) (ver_yes hL hm hG)).mono ?_
   rintro e w' ⟨rfl, hM, hgr⟩
   exact ⟨rfl, hM, grown_tn hL.versions hgr hL.lo.2.2.2 hL.bound⟩
section
variable [Env] [Runs] {Orc : Oracle} {Stop : Frame -> World -> Prop}
set_option maxRecDepth 20000 in
set_option maxHeartbeats 1000000 in
theorem does_tail (X : Setup Tryz.prog fnsM outsM orcsM) (hL : Lw base u wd cnt now all roots gn wb s bb cb vb F G B t vnow vall vroots vgone xs) (hkd : I64 kd) (hk : I64 k) (hv : I64 v) (hcnt : cnt + 1 <= 5864062014700) (hj : 6 <= pickN kd 8) (hpos : 0 < all.length) :
   RunsTo Tryz.prog Orc Stop 5 #[.pointer (some ⟨wb, 0, none⟩), .agg #[.int .i64 kd, .int .i64 k, .int .i64 v]] u (fun x u' => ∃ now' gn', Next base u wd (cnt + 1) now' all roots gn' wb s cb vb x u'):= by
 intro c cs hmode K
 refine does_start X hL hkd hk fun a ob u1 hA h5 h22 h23 hS hT hL1 => ?_
 have hj8:= pickN_lt kd 8 (by decide)
 rw [show decide (pickN kd 8 < 4) = false from decide_eq_false (by omega)] at h23
 refine LSc.c_cond (x:= dSet) (y:= dB) false (by rw [tm_eval]; exact h23) ?_
 show LSc _ _ _ (Conc.G (Frame.at _ _ (.code dB :: _)) _) _
 refine LSc.c_seq (x:= cL dB) (y:= cR dB) ?_
 refine LSc.norm (fun a' u' => Da a' wb ob /\ (∃ K0, tm a' 5 = .string K0) /\ tm a' 22 = .int .i64 (pickN kd 8) /\ tm a' 59 = .bool false /\ Tn base (fun _ => False) (fun _ => False) u1 u') (X.fit (by kernel_rfl))
   (fun t => Code.wp_mono ?_ (dw_12 (u:= World.on u1 t) hA h5 h22 hj8)) (fun a' u' t ⟨h1, h2, h3, h4, h6⟩ => ⟨h1, h2, h3, h4, h6.on t⟩) ?_
 . rintro e a' w' h
   cases e <;> first | exact h.elim | skip
   obtain ⟨h1, h2, h3, h4, rfl⟩:= h
   exact ⟨h1, ⟨_, h2⟩, h3, by rw [h4, decide_eq_false (by omega)], tn_on u1 t⟩
 rintro a u2 ⟨hA, ⟨K0, h5⟩, h22, h59, hT2⟩
 refine LSc.c_cond (x:= dDel) (y:= dB2) false (by rw [tm_eval]; exact h59) ?_
 show LSc _ _ _ (Conc.G (Frame.at _ _ (.code dB2 :: _)) _) _
 refine LSc.c_seq (x:= cL dB2) (y:= cR dB2) ?_
 refine LSc.norm (fun a' u' => Da a' wb ob /\ tm a' 89 = .bool false /\ Tn base (fun _ => False) (fun _ => False) u1 u') (X.fit (by kernel_rfl))
   (fun t => Code.wp_mono ?_ (dw_17 (u:= World.on u2 t) hA h5 h22 hj8)) (fun a' u' t ⟨h1, h2, h3⟩ => ⟨h1, h2, h3.on t⟩) ?_
 . rintro e a' w' h
   cases e <;> first | exact h.elim | skip
   obtain ⟨h1, h2, h3, rfl⟩:= h
   exact ⟨h1, by rw [h3, decide_eq_false (by omega)], hT2.on t⟩
 rintro a u3 ⟨hA, h89, hT3⟩
 refine LSc.c_cond (x:= dCom) (y:= cE (cR dB2)) false (by rw [tm_eval]; exact h89) ?_
 refine LSc.c_skip ?_
 refine LSc.c_inBlock ?_
 have hL3:= hL1.still hT3
 have hS3:= hS.tn hT3 (fun e => e)
 have hcn:= hL3.count
 obtain ⟨m, hmd⟩ : ∃ m, m = pickN v all.length:= ⟨_, rfl⟩
 have hm : m < all.length:= by rw [hmd]; exact pickN_lt v _ hpos
 refine LSc.c_seq (x:= cL dTail) (y:= cR dTail) ?_
 refine LSc.norm (fun a' u' => Da a' wb ob /\ tm a' 13 = .int .i64 m /\ Tn base (fun _ => False) (fun _ => False) u1 u') (X.fit (by kernel_rfl))
   (fun t => ?_) (fun a' u' t ⟨h1, h2, h3⟩ => ⟨h1, h2, h3.on t⟩) ?_
 . obtain ⟨ap, ac, hva⟩:= row_form hL3.rall
   have c3:= hL3.lw.cells.2.2.2.1
   rw [hva] at c3
   refine Code.wp_mono ?_ (dw_23 (u:= World.on u3 t) (n:= all.length) (m:= m) (j:= 0) hA c3 hS3.cells.2.2 (by rw [hmd]; exact pick_any v all.length _ hv.1 hv.2 hpos (by omega)))
   rintro e a' w' h
   cases e <;> first | exact h.elim | skip
   obtain ⟨h1, h2, rfl⟩:= h
   exact ⟨h1, h2, hT3.trans ((Tn.below (u:= World.on u3 t) (below_drewN _ _ 1) hL3.bound).on' _)⟩
 rintro a u4 ⟨hA, h13, hT4⟩
 have hL4:= hL1.still hT4
 have hS4:= hS.tn hT4 (fun e => e)
 obtain ⟨rt, gm, hr1, hg1, hver⟩:= hL4.vers m hm
 have hgl : (gn.map Value.bool)[m]? = some (.bool gm):= by rw [List.getElem?_map, hg1]; rfl
 refine LSc.c_seq (x:= cL (cR dTail)) (y:= cR (cR dTail)) ?_
 by_cases hpr : pickN kd 8 = 7 /\ 1 < m
 . -- forgotten
   refine LSc.c_seq (x:= cL (cL (cR dTail))) (y:= cR (cL (cR dTail))) ?_
   refine LSc.norm (fun a' u' => Da a' wb ob /\ tm a' 13 = .int .i64 m /\ tm a' 158 = .bool true /\ Tn base (fun _ => False) (fun _ => False) u1 u') (X.fit (by kernel_rfl))
     (fun t => Code.wp_mono ?_ (dw_24 (u:= World.on u4 t) (j:= pickN kd 8) hA h13 hS4.cells.1 (pick_any kd 8 _ hkd.1 hkd.2 (by decide) (by decide)))) (fun a' u' t ⟨h1, h2, h3, h4⟩ => ⟨h1, h2, h3, h4.on t⟩) ?_
   . rintro e a' w' h
     cases e <;> first | exact h.elim | skip
     obtain ⟨h1, h2, h3, rfl⟩:= h
     exact ⟨h1, h2, by rw [h3, decide_eq_true hpr.1, decide_eq_true hpr.2]; rfl, hT4.on t⟩
   rintro a u5 ⟨hA, h13, h158, hT5⟩
   have hL5:= hL1.still hT5
   refine LSc.c_cond (x:= dPr) (y:= cE (cR (cL (cR dTail)))) true (by rw [tm_eval]; exact h158) ?_
   show LSc _ _ _ (Conc.G (Frame.at _ _ (.code dPr :: _)) _) _
   refine LSc.c_seq (x:= cL dPr) (y:= cR dPr) ?_
   refine LSc.norm (fun a' u' => Da a' wb ob /\ tm a' 13 = .int .i64 m /\ tm a' 14 = .int .i64 (if gm then 9 else 0) /\ MapAt Tryz.prog intT u' vb cnt (upd G (.int .i64 ((m : Int) + 1)) none) /\ Tn base (fun _ => False) (· = vb) u5 u') (X.fit (by kernel_rfl))
     (fun t => Code.wp_mono ?_ (dw_25 (u:= World.on u5 t) hA h13 (by omega) hL5.lw.cells.1 (pruneS_any (hL5.still (tn_on u5 t)) hm hg1))) (fun a' u' t ⟨h1, h2, h3, h4, h6⟩ => ⟨h1, h2, h3, h4.same rfl, h6.on t⟩) ?_
   . rintro e a' w' h
     cases e <;> first | exact h.elim | skip
     obtain ⟨h1, h2, h3, h4, h6⟩:= h
     exact ⟨h1, h2, h3, h4, h6.on' _⟩
   rintro a u6 ⟨hA, h13, h14, hM6, hT6⟩
   have hLw6 : LwAt u6 wb s wd vnow vall vroots vgone:= hT6.cells wb _ _ _ hL5.lw (fun e => e)
   have hrg6 : u6.ownsRow base boolT 1 vgone all.length (gn.map Value.bool):= hT6.row (fun e => e) hL5.rgone
   obtain ⟨g, cap, x0, rfl, hbg, hx0, hcx, hfz⟩:= row_get hrg6 hm
   rw [hgl] at hx0
   cases hx0
   refine LSc.c_seq (x:= cL (cR dPr)) (y:= cR (cR dPr)) ?_
   refine LSc.norm (fun a' u' => Da a' wb ob /\ tm a' 13 = .int .i64 m /\ tm a' 14 = .int .i64 (if gm then 9 else 0) /\ tm a' 15 = .bool gm /\ ∃ t, u' = World.on u6 t) (X.fit (by kernel_rfl))
     (fun t => Code.wp_mono ?_ (dw_26 (u:= World.on u6 t) hA h13 h14 hm (by omega) hLw6.cells.2.2.2.2.2 hcx)) (fun a' u' t ⟨h1, h2, h3, h4, t', e⟩ => ⟨h1, h2, h3, h4, t, by rw [e]; rfl⟩) ?_
   . rintro e a' w' h
     cases e <;> first | exact h.elim | skip
     obtain ⟨h1, h2, h3, h4, rfl⟩:= h
     exact ⟨h1, h2, h3, h4, t, rfl⟩
   rintro a u7 ⟨hA, h13, h14, h15, t7, rfl⟩
   refine LSc.c_seq (x:= cL (cR (cR dPr))) (y:= cR (cR (cR dPr))) ?_
   refine LSc.norm (fun a' u' => Da a' wb ob /\ tm a' 14 = .int .i64 (if gm then 9 else 0) /\ tm a' 15 = .bool gm /\ ∃ t, u' = World.on (u6.setCell ⟨g, m, none⟩ (.bool true)) t) (X.fit (by kernel_rfl))
     (fun t => Code.wp_mono ?_ (dw_27 (u:= World.on (World.on u6 t7) t) hA h14 h15 h13 hm (by omega) hLw6.cells.2.2.2.2.2 hcx hfz)) (fun a' u' t ⟨h1, h2, h3, t', e⟩ => ⟨h1, h2, h3, t, by rw [e]; rfl⟩) ?_
   . rintro e a' w' h
     cases e <;> first | exact h.elim | skip
     obtain ⟨h1, h2, h3, rfl⟩:= h
     exact ⟨h1, h2, h3, t, rfl⟩
   rintro a u8 ⟨hA, h14, h15, t8, rfl⟩
   refine LSc.c_seq (x:= cL (cR (cR (cR dPr)))) (y:= cR (cR (cR (cR dPr)))) ?_
   refine LSc.norm (fun a' u' => Da a' wb ob /\ tm a' 4 = .bool true /\ ∃ t, u' = World.on (u6.setCell ⟨g, m, none⟩ (.bool true)) t) (X.fit (by kernel_rfl))
     (fun t => Code.wp_mono ?_ (dw_28 (u:= World.on (World.on (u6.setCell ⟨g, m, none⟩ (.bool true)) t8) t) hA h14 h15)) (fun a' u' t ⟨h1, h2, t', e⟩ => ⟨h1, h2, t, by rw [e]; rfl⟩) ?_
   . rintro e a' w' h
     cases e <;> first | exact h.elim | skip
     obtain ⟨h1, h2, rfl⟩:= h
     exact ⟨h1, h2, t, rfl⟩
   rintro a u9 ⟨hA, h4, t9, rfl⟩
   have hT9:= row_set_tn hrg6 m (.bool true)
   have hR9:= row_set hrg6 hm (.bool true)
   rw [show (gn.map Value.bool).set m (.bool true) = (gn.set m true).map Value.bool from (List.map_set ..).symm] at hR9
   have hLw:= hL5.pruned hm ((hT6.mono (fun _ h => h.elim) (fun _ h => h)).trans (hT9.mono (fun _ h => h) (fun _ h => h.elim))) (hT9.map (fun e => e) hM6) hR9
   exact does_ret hA h4 hmode (K _ _ ⟨_, _, rfl, fun k hk => ((hT9.old k hk).trans (hT6.old k hk)).trans ((hT5.old k hk).trans (hT.old k hk)), _, _, _, _, _, _, _, _, _, _, (hLw.still (tn_on _ t9)).more hcnt⟩)
 . -- loaded
   have hpf : (decide (pickN kd 8 = 7) && decide (1 < m)) = false:= by
     rw [Bool.and_eq_false_iff, decide_eq_false_iff_not, decide_eq_false_iff_not]
     exact Classical.not_and_iff_not_or_not.1 hpr
   refine LSc.c_seq (x:= cL (cL (cR dTail))) (y:= cR (cL (cR dTail))) ?_
   refine LSc.norm (fun a' u' => Da a' wb ob /\ tm a' 13 = .int .i64 m /\ tm a' 158 = .bool false /\ Tn base (fun _ => False) (fun _ => False) u1 u') (X.fit (by kernel_rfl))
     (fun t => Code.wp_mono ?_ (dw_24 (u:= World.on u4 t) (j:= pickN kd 8) hA h13 hS4.cells.1 (pick_any kd 8 _ hkd.1 hkd.2 (by decide) (by decide)))) (fun a' u' t ⟨h1, h2, h3, h4⟩ => ⟨h1, h2, h3, h4.on t⟩) ?_
   . rintro e a' w' h
     cases e <;> first | exact h.elim | skip
     obtain ⟨h1, h2, h3, rfl⟩:= h
     exact ⟨h1, h2, by rw [h3, hpf], hT4.on t⟩
   rintro a u5 ⟨hA, h13, h158, hT5⟩
   have hL5:= hL1.still hT5
   refine LSc.c_cond (x:= dPr) (y:= cE (cR (cL (cR dTail)))) false (by rw [tm_eval]; exact h158) ?_
   refine LSc.c_skip ?_
   refine LSc.c_seq (x:= cL (cR (cR dTail))) (y:= cR (cR (cR dTail))) ?_
   rcases hver with ⟨hrow, ⟨rfl, hG⟩ | ⟨rfl, x, ti, hG, hSd, hrep, hrt⟩⟩
   . -- gone
     refine LSc.norm (fun a' u' => Da a' wb ob /\ tm a' 13 = .int .i64 m /\ tm a' 16 = .int .i64 (if true then 9 else 0) /\ Tn base (fun _ => False) (fun _ => False) u1 u') (X.fit (by kernel_rfl))
       (fun t => Code.wp_mono ?_ (dw_29 (u:= World.on u5 t) (e0:= 9) (R:= fun w' => w' = World.on u5 t) hA h13 (by omega) hL5.lw.cells.1 (load_no (ver_no (hL5.still (tn_on u5 t)) hm hG)))) (fun a' u' t ⟨h1, h2, h3, h4⟩ => ⟨h1, h2, h3, h4.on t⟩) ?_
     . rintro e a' w' h
       cases e <;> first | exact h.elim | skip
       obtain ⟨h1, h2, h3, rfl⟩:= h
       exact ⟨h1, h2, h3, hT5.on t⟩
     rintro a u6 ⟨hA, h13, h16, hT6⟩
     have hL6:= hL1.still hT6
     obtain ⟨g, cap, x0, hvg, hbg, hx0, hcx, hfz⟩:= row_get hL6.rgone hm
     rw [hgl] at hx0
     cases hx0
     have c5:= hL6.lw.cells.2.2.2.2.2
     rw [hvg] at c5
     refine LSc.c_seq (x:= cL (cR (cR (cR dTail)))) (y:= cR (cR (cR (cR dTail)))) ?_
     refine LSc.norm (fun a' u' => Da a' wb ob /\ tm a' 13 = .int .i64 m /\ tm a' 16 = .int .i64 (if true then 9 else 0) /\ ∃ t, u' = World.on u6 t) (X.fit (by kernel_rfl))
       (fun t => Code.wp_mono ?_ (dw_30 (u:= World.on u6 t) hA h13 h16 hm (by omega) c5 hcx)) (fun a' u' t ⟨h1, h2, h3, t', e⟩ => ⟨h1, h2, h3, t, by rw [e]; rfl⟩) ?_
     . rintro e a' w' h
       cases e <;> first | exact h.elim | skip
       obtain ⟨h1, h2, h3, rfl⟩:= h
       exact ⟨h1, h2, h3, t, rfl⟩
     rintro a u7 ⟨hA, h13, h16, t7, rfl⟩
     refine LSc.c_seq (x:= cL (cR (cR (cR (cR dTail))))) (y:= cR (cR (cR (cR (cR dTail))))) ?_
     refine LSc.norm (fun a' u' => Da a' wb ob /\ tm a' 4 = .bool true /\ ∃ t, u' = World.on u6 t) (X.fit (by kernel_rfl))
       (fun t => Code.wp_mono ?_ (dw_32 (u:= World.on (World.on u6 t7) t) (b:= true) hA h13 h16 hm (by omega) c5 hcx)) (fun a' u' t ⟨h1, h2, t', e⟩ => ⟨h1, h2, t, by rw [e]; rfl⟩) ?_
     . rintro e a' w' h
       cases e <;> first | exact h.elim | skip
       obtain ⟨h1, h2, rfl⟩:= h
       exact ⟨h1, h2, t, rfl⟩
     rintro a u8 ⟨hA, h4, t8, rfl⟩
     exact does_ret hA h4 hmode (K _ _ ⟨_, _, rfl, fun k hk => (hT6.old k hk).trans (hT.old k hk), _, _, _, _, _, _, _, _, _, _, (hL6.still (tn_on _ t8)).more hcnt⟩)
   . -- there
     have hSd5 : Sd ndT (dgw wd) All u5 ti.tr x:= by
       obtain ⟨r', g', e1, e2, e3, e4⟩:= hL5.vers m hm
       rcases e4 with ⟨rfl, hG'⟩ | ⟨_, x', ti', hG', hSd', hrep', _⟩
       . rw [hG] at hG'; cases hG'
       . rw [hG] at hG'
         have : x = x':= by simpa [ptr] using hG'
         subst this
         have : ti = ti':= rep_unique hrep hrep'
         subst this
         exact hSd'
     refine LSc.norm (fun a' u' => Da a' wb ob /\ tm a' 13 = .int .i64 m /\ tm a' 16 = .int .i64 (if false then 9 else 0) /\ StoreAt u' s wd x cb vb all.length /\ MapAt Tryz.prog strT u' cb 0 (fun _ => none) /\ Tn base (· = stT) (· = cb) u5 u') (X.fit (by kernel_rfl))
       (fun t => Code.wp_mono ?_ (dw_29 (u:= World.on u5 t) (e0:= 0) (R:= fun u' => StoreAt u' s wd x cb vb all.length /\ MapAt Tryz.prog strT u' cb 0 (fun _ => none) /\ Kept (fun k => k = s \/ k = cb) (World.on u5 t) u') hA h13 (by omega) hL5.lw.cells.1 (load_yes hL5.store (hL5.still (tn_on u5 t)).changes hL5.apart.1 (ver_yes (hL5.still (tn_on u5 t)) hm hG)))) (fun a' u' t ⟨h1, h2, h3, h4, h6, h7⟩ => ⟨h1, h2, h3, h4, h6.same rfl, h7.on t⟩) ?_
     . rintro e a' w' h
       cases e <;> first | exact h.elim | skip
       obtain ⟨h1, h2, h3, h4, h6, h7⟩:= h
       refine ⟨h1, h2, h3, h4, h6, ?_⟩
       refine Tn.gw ((Gw.kept h7).on' _) hL5.bound (fun k cs ty fr hk hc => ?_) (fun k es cl hk hc => ?_) (fun k hk => ?_)
       . rcases hk with rfl | rfl
         . have:= hL5.store; unfold StoreAt at this; rw [this] at hc; cases hc; rfl
         . obtain ⟨D, ⟨es0, cl0, e0, _⟩, _⟩:= hL5.changes; rw [e0] at hc; cases hc
       . rcases hk with rfl | rfl
         . have:= hL5.store; unfold StoreAt at this; rw [this] at hc; cases hc
         . rfl
       . rcases hk with rfl | rfl
         . exact hL5.lo.2.1
         . exact hL5.lo.2.2.1
     rintro a u6 ⟨hA, h13, h16, hSt6, hM6, hT6⟩
     have hLw6 : LwAt u6 wb s wd vnow vall vroots vgone:= hT6.cells wb _ _ _ hL5.lw (by decide)
     have hrg6 : u6.ownsRow base boolT 1 vgone all.length (gn.map Value.bool):= hT6.row (by decide) hL5.rgone
     have hra6 : u6.ownsRow base prsT 1 vall all.length xs:= hT6.row (by decide) hL5.rall
     obtain ⟨g, cap, x0, hvg, hbg, hx0, hcx, hfz⟩:= row_get hrg6 hm
     rw [hgl] at hx0
     cases hx0
     obtain ⟨g2, cap2, x2, hva, hbg2, hx2, hcx2, hfz2⟩:= row_get hra6 hm
     obtain ⟨xv, hxv, hOx⟩:= hL5.rx m hm
     have hx3 : x2 = xv:= by rw [hxv] at hx2; exact (Option.some.inj hx2).symm
     clear hx2
     subst hx3
     obtain ⟨xv, hxe⟩ : ∃ y, y = x2:= ⟨_, rfl⟩
     rw [<- hxe] at hxv hOx hcx2
     have c5:= hLw6.cells.2.2.2.2.2
     rw [hvg] at c5
     have c3:= hLw6.cells.2.2.2.1
     rw [hva] at c3
     have hxs : ∃ p q c, xv = .slice p q c:= by obtain ⟨p, c, e⟩:= row_form hOx; exact ⟨p, _, c, e⟩
     refine LSc.c_seq (x:= cL (cR (cR (cR dTail)))) (y:= cR (cR (cR (cR dTail)))) ?_
     refine LSc.norm (fun a' u' => Da a' wb ob /\ tm a' 13 = .int .i64 m /\ tm a' 16 = .int .i64 (if false then 9 else 0) /\ ∃ t, u' = World.on (u6.setCell ⟨wb, 2, none⟩ xv) t) (X.fit (by kernel_rfl))
       (fun t => Code.wp_mono ?_ (dw_31 (u:= World.on u6 t) (n2:= 0) hA h13 h16 hm (by omega) c5 hcx c3 hcx2 hxs hLw6.cells.2.2.1 (hLw6.frozen 2))) (fun a' u' t ⟨h1, h2, h3, t', e⟩ => ⟨h1, h2, h3, t, by rw [e]; rfl⟩) ?_
     . rintro e a' w' h
       cases e <;> first | exact h.elim | skip
       obtain ⟨h1, h2, h3, rfl⟩:= h
       exact ⟨h1, h2, h3, t, rfl⟩
     rintro a u7 ⟨hA, h13, h16, t7, rfl⟩
     have hT7:= hLw6.tn hL5.lo.1 2 xv
     have hL7:= hL5.loaded (u':= u6.setCell ⟨wb, 2, none⟩ xv) hm hrow hSd5 hrep hOx ((hT6.mono (fun _ h => .inl h) (fun _ h => h)).trans (hT7.mono (fun _ h => .inr h) (fun _ h => h.elim))) (hT7.store (by decide) hSt6) (hLw6.set2 xv) (hT7.map (fun e => e) hM6)
     have c57:= hL7.lw.cells.2.2.2.2.2
     rw [hvg] at c57
     have hcx7 : (u6.setCell ⟨wb, 2, none⟩ xv).cell? ⟨g, m, none⟩ = some (.bool false):= by
       obtain ⟨g', cap', x', hvg', _, hx', hcx', _⟩:= row_get hL7.rgone hm
       rw [hvg] at hvg'
       cases hvg'
       rw [hgl] at hx'
       cases hx'
       exact hcx'
     refine LSc.c_seq (x:= cL (cR (cR (cR (cR dTail))))) (y:= cR (cR (cR (cR (cR dTail))))) ?_
     refine LSc.norm (fun a' u' => Da a' wb ob /\ tm a' 4 = .bool true /\ ∃ t, u' = World.on (u6.setCell ⟨wb, 2, none⟩ xv) t) (X.fit (by kernel_rfl))
       (fun t => Code.wp_mono ?_ (dw_32 (u:= World.on (World.on (u6.setCell ⟨wb, 2, none⟩ xv) t7) t) (b:= false) hA h13 h16 hm (by omega) c57 hcx7)) (fun a' u' t ⟨h1, h2, t', e⟩ => ⟨h1, h2, t, by rw [e]; rfl⟩) ?_
     . rintro e a' w' h
       cases e <;> first | exact h.elim | skip
       obtain ⟨h1, h2, rfl⟩:= h
       exact ⟨h1, h2, t, rfl⟩
     rintro a u8 ⟨hA, h4, t8, rfl⟩
     exact does_ret hA h4 hmode (K _ _ ⟨_, _, rfl, fun k hk => ((hT7.old k hk).trans (hT6.old k hk)).trans ((hT5.old k hk).trans (hT.old k hk)), _, _, _, _, _, _, _, _, _, _, (hL7.still (tn_on _ t8)).more hcnt⟩)
end
end
section
variable {base : Nat} {u : World} {wd cnt : Nat} {now : KV} {all : List KV} {roots : List Int} {gn : List Bool} {wb s bb cb vb : Nat} {F G : Lit -> Option Value} {B : KV} {t : Go.Tm.T ByteArray} {vnow vall vroots vgone : Value} {xs : List Value} {kd k v : Int}
theorem key_size {key : List UInt8} (hk : key ∈ kall) : 1 <= (Tw.S key).size /\ (Tw.S key).size <= 4:= by
 have:= kall_size key hk
 have h2 : (Tw.S key).size = key.length:= by simp [Tw.S, ByteArray.size]
 have h3 : key.length ≠ 0:= fun e => this.1 (List.length_eq_zero_iff.1 e)
 omega
theorem rep_vals {B : KV} {t : Go.Tm.T ByteArray} (hB : Row B) (hr : Rep B.bits t) : ∀ q v, t.get q = some v -> v.size <= 1000000:= fun q v e => by
 rw [rep_get hr] at e
 have:= look_mem' e
 obtain ⟨y, hy, e2⟩:= List.mem_map.1 this
 have h3:= (hB.keys y hy).2
 have : y.2 = v:= congrArg Prod.snd e2
 rw [this] at h3; omega
theorem getL (hL : Lw base u wd cnt now all roots gn wb s bb cb vb F G B t vnow vall vroots vgone xs) {key : List UInt8} (hk : key ∈ kall) :
   Calls Tryz.prog 8 #[.pointer (some ⟨s, 0, none⟩), .string (Tw.S key)] u fun e w' => e = .returned (told (khas key now)) /\ Below u.heap.size u w':= by
 have hsz:= key_size hk
 have hf : Fits t (kb (Tw.S key).data.toList):= by rw [S_data]; exact hL.rowB.fits hL.rep hk
 have hg:= getS_any (dg:= dgw wd) hL.store hL.changes hL.tree hf hL.chg.tells (rep_vals hL.rowB hL.rep) hsz.1 hsz.2
 rw [S_data, nowHas_eq hL.rep, <- hL.chg.now] at hg
 exact hg
theorem rootL (hL : Lw base u wd cnt now all roots gn wb s bb cb vb F G B t vnow vall vroots vgone xs) {m : Nat} (hm : m < all.length) {r : Int} {g : Bool} (hr : roots[m]? = some r) (hg : gn[m]? = some g) :
   Calls Tryz.prog 10 #[.pointer (some ⟨s, 0, none⟩), .int .i64 ((m : Int) + 1)] u fun e w' => e = .returned (.tuple #[.int .i64 (if g then 0 else r), .int .i64 (if g then 9 else 0)]) /\ w' = u:= by
 obtain ⟨r', g', h1, h2, h3, h4⟩:= hL.vers m hm
 rw [hr] at h1; rw [hg] at h2
 cases h1; cases h2
 rcases h4 with ⟨rfl, hG⟩ | ⟨rfl, x, ti, hG, hSd, _, rfl⟩
 . exact root_no (ver_no hL hm hG)
 . obtain ⟨lr, rr, hN⟩:= sd_root hSd
   exact root_yes hN (ver_yes hL hm hG)
theorem walkL (hL : Lw base u wd cnt now all roots gn wb s bb cb vb F G B t vnow vall vroots vgone xs) {m : Nat} (hm : m < all.length) {g : Bool} (hg : gn[m]? = some g) :
   Calls Tryz.prog 9 #[.pointer (some ⟨s, 0, none⟩), .int .i64 ((m : Int) + 1)] u fun e w' => ∃ vl, e = .returned (.tuple #[vl, .int .i64 (if g then 9 else 0)]) /\ OwnP u.heap.size w' vl (if g then [] else all[m].prs) /\ Below u.heap.size u w':= by
 obtain ⟨r', g', h1, h2, h3, h4⟩:= hL.vers m hm
 rw [hg] at h2
 cases h2
 rcases h4 with ⟨rfl, hG⟩ | ⟨rfl, x, ti, hG, hSd, hrep, rfl⟩
 . refine (walkS_no (ver_no hL hm hG)).mono ?_
   rintro e w' ⟨rfl, rfl⟩
   exact ⟨_, rfl, OwnP.nil _ _, Below.refl _ _⟩
 . exact walkS_yes (ver_yes hL hm hG) (pairs_any (dg:= dgw wd) hrep rfl h3.ok (sd_nd hSd) (by have:= h3.len; omega))
section
variable [Env] [Runs] {Orc : Oracle} {Stop : Frame -> World -> Prop}
theorem RunsTo.mono {P : Program} {f : FuncId} {args : Array Value} {u : World} {Q Q' : Value -> World -> Prop} (h : RunsTo P Orc Stop f args u Q) (hq : ∀ x u', Q x u' -> Q' x u') : RunsTo P Orc Stop f args u Q' :=
 fun c cs hm K => h c cs hm fun x u' h => K x u' (hq x u' h)
theorem does_any (X : Setup Tryz.prog fnsM outsM orcsM) (hO : Answers Orc) (hL : Lw base u wd cnt now all roots gn wb s bb cb vb F G B t vnow vall vroots vgone xs) (hkd : I64 kd) (hk : I64 k) (hv : I64 v) (hcnt : cnt + 1 <= 5864062014700) (hpos : 0 < all.length) :
   RunsTo Tryz.prog Orc Stop 5 #[.pointer (some ⟨wb, 0, none⟩), .agg #[.int .i64 kd, .int .i64 k, .int .i64 v]] u (fun x u' => ∃ now' all' roots' gn', 0 < all'.length /\ Next base u wd (cnt + 1) now' all' roots' gn' wb s cb vb x u'):= by
 have hj:= pickN_lt kd 8 (by decide)
 by_cases h1 : pickN kd 8 < 4
 . rcases valN_size (pickN v 6) (pickN_lt v 6 (by decide)) with hV | ⟨_, hV⟩
   . exact RunsTo.mono (does_set X hL hkd hk hv hcnt h1 hV) fun x u' h => ⟨_, _, _, _, hpos, h⟩
   . exact RunsTo.mono (does_long X hL hkd hk hv hcnt h1 (by omega)) fun x u' h => ⟨_, _, _, _, hpos, h⟩
 . by_cases h2 : pickN kd 8 = 4
   . exact RunsTo.mono (does_del X hL hkd hk hv hcnt h2) fun x u' h => ⟨_, _, _, _, hpos, h⟩
   . by_cases h3 : pickN kd 8 = 5
     . exact RunsTo.mono (does_commit X hO hL hkd hk hv hcnt h3) fun x u' ⟨r, h⟩ => ⟨_, _, _, _, by simp, h⟩
     . exact RunsTo.mono (does_tail X hL hkd hk hv hcnt (by omega) hpos) fun x u' ⟨n', g', h⟩ => ⟨_, _, _, _, hpos, h⟩
end
end
noncomputable abbrev beC : Code:= bodyOf Tryz.f4
structure Ba (a : Act) : Prop where
 size : a.tmps.size = 97
 defers : a.defers = []
theorem Ba.out {a : Act} (h : Ba a) : a = ⟨([tm a 0, tm a 1, tm a 2, tm a 3, tm a 4, tm a 5, tm a 6, tm a 7, tm a 8, tm a 9, tm a 10, tm a 11, tm a 12, tm a 13, tm a 14, tm a 15, tm a 16, tm a 17, tm a 18, tm a 19, tm a 20, tm a 21, tm a 22, tm a 23, tm a 24, tm a 25, tm a 26, tm a 27, tm a 28, tm a 29, tm a 30, tm a 31, tm a 32, tm a 33, tm a 34, tm a 35, tm a 36, tm a 37, tm a 38, tm a 39, tm a 40, tm a 41, tm a 42, tm a 43, tm a 44, tm a 45, tm a 46, tm a 47, tm a 48, tm a 49, tm a 50, tm a 51, tm a 52, tm a 53, tm a 54, tm a 55, tm a 56, tm a 57, tm a 58, tm a 59, tm a 60, tm a 61, tm a 62, tm a 63, tm a 64, tm a 65, tm a 66, tm a 67, tm a 68, tm a 69, tm a 70, tm a 71, tm a 72, tm a 73, tm a 74, tm a 75, tm a 76, tm a 77, tm a 78, tm a 79, tm a 80, tm a 81, tm a 82, tm a 83, tm a 84, tm a 85, tm a 86, tm a 87, tm a 88, tm a 89, tm a 90, tm a 91, tm a 92, tm a 93, tm a 94, tm a 95, tm a 96]).toArray, []⟩:= act_out h.size h.defers
theorem Ba.put {a : Act} (h : Ba a) (d : Nat) (v : Value) : Ba (a.put (some d) v):= ⟨by rw [Eq.size_put]; exact h.size, by rw [defers_put]; exact h.defers⟩
set_option maxRecDepth 20000 in
theorem be_0 {a : Act} {u : World} {c : Int} (hA : Ba a) (h0 : tm a 0 = .int .i64 c) :
   (cL beC).wp Tryz.prog (onlyN fun a' u' => Ba a' /\ tm a' 0 = .int .i64 c /\ u' = u) a u:= by
 rw [hA.out, h0]
 simp only [beC, cL, cR, bodyOf, Tryz.f4, Option.getD_some]
 go_wp2_with fail
 exact ⟨⟨rfl, rfl⟩, rfl, rfl⟩
set_option maxRecDepth 20000 in
theorem be_1 {a : Act} {u : World} {c : Int} (hA : Ba a) (h0 : tm a 0 = .int .i64 c) (hc : I64 c) :
   (cL (cR beC)).wp Tryz.prog (onlyN fun a' u' => Ba a' /\ ∃ wb, tm a' 3 = .pointer (some ⟨wb, 0, none⟩) /\ u.heap.size <= wb /\ u'.heap[wb]? = some (.cells #[.pointer none, .int .i64 ((1 + pickN c 32 : Nat) : Int), .slice none 0 0, .slice none 0 0, .slice none 0 0, .slice none 0 0] lwT (0, 0)) /\ Below u.heap.size u u') a u:= by
 have hp:= pick_any c 32 u hc.1 hc.2 (by decide) (by decide)
 have hlt:= pickN_lt c 32 (by decide)
 have hnat : ((1 + pickN c 32 : Nat) : Int) = 1 + (pickN c 32 : Int):= by omega
 rw [hA.out, h0, hnat]
 simp only [beC, cL, cR, bodyOf, Tryz.f4, Option.getD_some]
 go_wp2_with (go_at_call 12; refine hp.mono ?_; rintro e u2 ⟨rfl, rfl⟩)
 exact ⟨⟨rfl, rfl⟩, u2.heap.size, rfl, Nat.le_refl _, heap_alloc_new u2 _, (Below.refl _ u2).alloc (Nat.le_refl _) _⟩
abbrev nilS : Value:= .slice none 0 0
def LwRaw (u : World) (wb wd : Nat) : Prop:= u.heap[wb]? = some (.cells #[.pointer none, .int .i64 wd, nilS, nilS, nilS, nilS] lwT (0, 0))
theorem LwRaw.cells {u : World} {wb wd : Nat} (h : LwRaw u wb wd) : u.cell? ⟨wb, 0, none⟩ = some (.pointer none) /\ u.cell? ⟨wb, 1, none⟩ = some (.int .i64 wd) /\ u.frozen? ⟨wb, 0, none⟩ = false:= by
 unfold LwRaw at h
 refine ⟨?_, ?_, ?_⟩ <;> simp [World.cell?, World.frozen?, h]
theorem LwRaw.set {u : World} {wb wd : Nat} (h : LwRaw u wb wd) (s : Nat) : LwAt (u.setCell ⟨wb, 0, none⟩ (.pointer (ptr s))) wb s wd nilS nilS nilS nilS:= by
 have hs:= (Array.getElem?_eq_some_iff.1 h).1
 unfold LwRaw at h
 unfold LwAt
 simp only [World.setCell, Array.getElem?_modify, if_true, h]
 simp
theorem LwRaw.tn {u : World} {base wb wd : Nat} (h : LwRaw u wb wd) (hb : base <= wb) (x : Value) : Tn base (· = lwT) (fun _ => False) u (u.setCell ⟨wb, 0, none⟩ x):= by
 have hne : ∀ k, k ≠ wb -> (u.setCell ⟨wb, 0, none⟩ x).heap[k]? = u.heap[k]?:= fun k hk => Below.heap_setCell _ _ _ _ hk
 refine ⟨rfl, by simp [World.setCell], fun k cs ty fr e hn => ?_, fun k es cl e _ => ?_, fun k hk => hne k (by omega)⟩
 . by_cases hk : k = wb
   . subst hk; unfold LwRaw at h; rw [h] at e; cases e; exact absurd rfl hn
   . rw [hne k hk]; exact e
 . by_cases hk : k = wb
   . subst hk; unfold LwRaw at h; rw [h] at e; cases e
   . rw [hne k hk]; exact e
set_option maxRecDepth 20000 in
theorem be_2 {a : Act} {u : World} {wb wd : Nat} {dg : DG} (hA : Ba a) (h3 : tm a 3 = .pointer (some ⟨wb, 0, none⟩)) (hL : LwRaw u wb wd) (h1 : 1 <= wd) (h2 : wd <= 32) :
   (cL (cR (cR beC))).wp Tryz.prog (onlyN fun a' u' => Ba a' /\ tm a' 3 = .pointer (some ⟨wb, 0, none⟩) /\ ∃ s bb cb vb, tm a' 4 = .pointer (some ⟨s, 0, none⟩) /\ tm a' 5 = .int .i64 0 /\ StoreAt u' s wd bb cb vb 0 /\ TAt dg u' .empty bb /\ MapAt Tryz.prog strT u' cb 0 (fun _ => none) /\ MapAt Tryz.prog intT u' vb 0 (fun _ => none) /\ cb ≠ vb /\ u.heap.size <= s /\ u.heap.size <= cb /\ u.heap.size <= vb /\ Below u.heap.size u u') a u:= by
 obtain ⟨c0, c1, _⟩:= hL.cells
 have hn:= new_any (dg:= dg) (wd : Int) u (by omega) (by omega)
 rw [hA.out, h3]
 simp only [beC, cL, cR, bodyOf, Tryz.f4, Option.getD_some]
 go_wp2_with (go_at_call 13; refine hn.mono ?_; rintro e u2 ⟨s, bb, cb, vb, rfl, k⟩)
 exact ⟨⟨rfl, rfl⟩, rfl, s, bb, cb, vb, rfl, rfl, k⟩
set_option maxRecDepth 20000 in
theorem be_3 {a : Act} {u : World} {wb s : Nat} (hA : Ba a) (h3 : tm a 3 = .pointer (some ⟨wb, 0, none⟩)) (h4 : tm a 4 = .pointer (some ⟨s, 0, none⟩)) (h5 : tm a 5 = .int .i64 0) :
   (cL (cR (cR (cR beC)))).wp Tryz.prog (onlyN fun a' u' => Ba a' /\ tm a' 3 = .pointer (some ⟨wb, 0, none⟩) /\ tm a' 4 = .pointer (some ⟨s, 0, none⟩) /\ u' = u) a u:= by
 rw [hA.out, h3, h4, h5]
 simp only [beC, cL, cR, bodyOf, Tryz.f4, Option.getD_some]
 go_wp2_with fail
 exact ⟨⟨rfl, rfl⟩, rfl, rfl, rfl⟩
set_option maxRecDepth 20000 in
theorem be_5 {a : Act} {u : World} {wb s wd : Nat} (hA : Ba a) (h3 : tm a 3 = .pointer (some ⟨wb, 0, none⟩)) (h4 : tm a 4 = .pointer (some ⟨s, 0, none⟩)) (hL : LwRaw u wb wd) :
   (cL (cR (cR (cR (cR beC))))).wp Tryz.prog (onlyN fun a' u' => Ba a' /\ tm a' 3 = .pointer (some ⟨wb, 0, none⟩) /\ tm a' 4 = .pointer (some ⟨s, 0, none⟩) /\ u' = u.setCell ⟨wb, 0, none⟩ (.pointer (ptr s))) a u:= by
 obtain ⟨c0, c1, c2⟩:= hL.cells
 rw [hA.out, h3, h4]
 simp only [beC, cL, cR, bodyOf, Tryz.f4, Option.getD_some]
 go_wp2_with fail
 exact ⟨⟨rfl, rfl⟩, rfl, rfl, rfl⟩
structure Bt (a : Act) (wb s : Nat) : Prop where
 ba : Ba a
 w : tm a 3 = .pointer (some ⟨wb, 0, none⟩)
 s : tm a 4 = .pointer (some ⟨s, 0, none⟩)
 t6 : tm a 6 = .bool true
 t7 : tm a 7 = .bool true
 t8 : tm a 8 = .bool true
set_option maxRecDepth 20000 in
theorem be_9 {a : Act} {u : World} {wb s : Nat} {x : ByteArray} {e0 : Int} (hA : Bt a wb s)
   (hg : Calls Tryz.prog 8 #[.pointer (some ⟨s, 0, none⟩), .string ⟨#[65]⟩] u fun e w' => e = .returned (.tuple #[.string x, .int .i64 e0]) /\ Below u.heap.size u w') :
   (cL (cR (cR (cR (cR (cR (cR (cR (cR beC))))))))).wp Tryz.prog (onlyN fun a' u' => Bt a' wb s /\ tm a' 9 = .string x /\ tm a' 10 = .int .i64 e0 /\ Below u.heap.size u u') a u:= by
 obtain ⟨h1, h3, h4, h6, h7, h8⟩:= hA
 rw [h1.out, h3, h4, h6, h7, h8]
 simp only [beC, cL, cR, bodyOf, Tryz.f4, Option.getD_some]
 go_wp2_with (go_at_call 8; refine hg.mono ?_; rintro e u2 ⟨rfl, hB⟩)
 exact ⟨⟨⟨rfl, rfl⟩, rfl, rfl, rfl, rfl, rfl⟩, rfl, rfl, hB⟩
set_option maxRecDepth 20000 in
theorem be_10 {a : Act} {u : World} {wb s : Nat} {x : ByteArray} {e0 e1 : Int} {ps : List (ByteArray × ByteArray)} (hA : Bt a wb s) (h9 : tm a 9 = .string x) (h10 : tm a 10 = .int .i64 e0)
   (hg : Calls Tryz.prog 9 #[.pointer (some ⟨s, 0, none⟩), .int .i64 2] u fun e w' => ∃ vl, e = .returned (.tuple #[vl, .int .i64 e1]) /\ OwnP u.heap.size w' vl ps /\ Below u.heap.size u w') :
   (cL (cR (cR (cR (cR (cR (cR (cR (cR (cR beC)))))))))).wp Tryz.prog (onlyN fun a' u' => Bt a' wb s /\ tm a' 9 = .string x /\ tm a' 10 = .int .i64 e0 /\ tm a' 12 = .int .i64 e1 /\ ∃ vl, tm a' 11 = vl /\ OwnP u.heap.size u' vl ps /\ Below u.heap.size u u') a u:= by
 obtain ⟨h1, h3, h4, h6, h7, h8⟩:= hA
 rw [h1.out, h3, h4, h6, h7, h8, h9, h10]
 simp only [beC, cL, cR, bodyOf, Tryz.f4, Option.getD_some]
 go_wp2_with (go_at_call 9; refine hg.mono ?_; rintro e u2 ⟨vl, rfl, hO, hB⟩)
 exact ⟨⟨⟨rfl, rfl⟩, rfl, rfl, rfl, rfl, rfl⟩, rfl, rfl, rfl, vl, rfl, hO, hB⟩
set_option maxRecDepth 20000 in
theorem be_11 {a : Act} {u : World} {base wb s : Nat} {vl : Value} (hA : Bt a wb s) (h9 : tm a 9 = .string ⟨#[120]⟩) (h10 : tm a 10 = .int .i64 0) (h12 : tm a 12 = .int .i64 0) (h11 : tm a 11 = vl) (hO : OwnP base u vl [(⟨#[65]⟩, ⟨#[120]⟩)]) :
   (cL (cR (cR (cR (cR (cR (cR (cR (cR (cR (cR beC))))))))))).wp Tryz.prog (onlyN fun a' u' => Ba a' /\ tm a' 3 = .pointer (some ⟨wb, 0, none⟩) /\ u' = u) a u:= by
 obtain ⟨h1, h3, h4, h6, h7, h8⟩:= hA
 obtain ⟨p, cap, rfl, hc⟩:= hO.row
 obtain ⟨ad, rfl, q0, q1⟩:= hc 0 (by decide)
 simp only [Nat.zero_mul, Addr.add_zero', List.getElem_cons_zero] at q0 q1
 rw [h1.out, h3, h4, h6, h7, h8, h9, h10, h11, h12]
 simp only [beC, cL, cR, bodyOf, Tryz.f4, Option.getD_some]
 go_wp2_with fail
 exact ⟨⟨rfl, rfl⟩, rfl, rfl⟩
set_option maxRecDepth 20000 in
theorem be_13 {a : Act} {u : World} {wb : Nat} (hA : Ba a) (h3 : tm a 3 = .pointer (some ⟨wb, 0, none⟩)) :
   (cL (cR (cR (cR (cR (cR (cR (cR (cR (cR (cR (cR beC)))))))))))).wp Tryz.prog (onlyN fun a' u' => Ba a' /\ tm a' 2 = .pointer (some ⟨wb, 0, none⟩) /\ u' = u) a u:= by
 rw [hA.out, h3]
 simp only [beC, cL, cR, bodyOf, Tryz.f4, Option.getD_some]
 go_wp2_with fail
 exact ⟨⟨rfl, rfl⟩, rfl, rfl⟩
end Go.Proofs.YtddcbeeldjjmeaaGreat
namespace Go.Eq
open Go Go.Conc Go.Nest
theorem LSc.bld [Env] [Runs] {P : Program} {Orc : Oracle} {Stop : Frame -> World -> Prop} {u : World} {b : Frame} {a : Act} {k : List Item} {cs : List Frame} {ops : Array Oper} {i : Nat} {rest : List Nat} {o : Oper} (d : Nat) (v : Value) (ty : TypeId) (ps : Array (Nat × Operand)) (hk : b.kind = .normal) (hf : ¬ Runs.orc o) (ho : ops[i]? = some o) (hg : o.guard = none) (hd : o.dst = some d) (hop : o.op = .build ty ps)
   (hr : ∀ w, (Instr.build ty (ps.map fun (i, x) => (i, a.eval x))).run P w = .ok v w)
   (K : LSc P Orc Stop (Conc.G (b.at (a.put (some d) v) (.inRegion ops rest :: k)) cs) u) : LSc P Orc Stop (Conc.G (b.at a (.inRegion ops (i :: rest) :: k)) cs) u :=
 LSc.val (v:= v) (u':= u) hf ho (wanted_none hg _) (by rw [hk]; decide) (fun t => by simp only [execOp, hop]; simp [hr, Result.andThen]) (by rw [hd]; exact K)
end Go.Eq
namespace Go.Proofs.YtddcbeeldjjmeaaGreat
open Go Go.Conc Go.RowKit Go.Nest Go.Tm Go.Proofs.YtddcbeeldjjmeaaGreat.Tw Go.Maps Go.Sort Go.Shelf Go.Eq
set_option linter.unusedVariables false
set_option linter.unusedSimpArgs false
section
variable [Env] [Runs] {Orc : Oracle} {Stop : Frame -> World -> Prop}
def Begun (base : Nat) (u0 : World) (x : Value) (u' : World) : Prop :=
 ∃ wb wd now all roots gn s bb cb vb F G B t vnow vall vroots vgone xs, x = .pointer (some ⟨wb, 0, none⟩) /\ Old base u0 u' /\ 0 < all.length /\ Lw base u' wd 3 now all roots gn wb s bb cb vb F G B t vnow vall vroots vgone xs
abbrev bBe : Frame:= Conc.base 4
set_option maxRecDepth 20000 in
set_option maxHeartbeats 1000000 in
theorem begun_runs (X : Setup Tryz.prog fnsM outsM orcsM) (hO : Answers Orc) {u : World} {base : Nat} {c0 : Int} (hc : I64 c0) (hb : base <= u.heap.size) :
   RunsTo Tryz.prog Orc Stop 4 #[.int .i64 c0] u (Begun base u):= by
 intro c cs hmode K
 rw [enter_at _ Tryz.func4 (show Tryz.f4.body = some beC from rfl)]
 generalize ha : ({ tmps:= #[Value.int .i64 c0] ++ Array.replicate (Tryz.f4.ntmps - #[Value.int .i64 c0].size) undef, defers:= [] } : Act) = a
 have hA : Ba a:= ⟨by rw [<- ha]; simp [Tryz.ntmps4], by rw [<- ha]⟩
 have h0 : tm a 0 = .int .i64 c0:= by rw [<- ha]; simp [tm]
 clear ha
 show LSc _ _ _ (Conc.G (bBe.at a [.code beC]) (c :: cs)) u
 -- its block
 refine LSc.c_seq (x:= cL beC) (y:= cR beC) ?_
 refine LSc.norm (fun a' u' => Ba a' /\ tm a' 0 = .int .i64 c0 /\ Tn base (fun _ => False) (fun _ => False) u u') (X.fit (by kernel_rfl)) (fun t => Code.wp_mono ?_ (be_0 (u:= World.on u t) hA h0)) (fun a' u' t ⟨h1, h2, h3⟩ => ⟨h1, h2, h3.on t⟩) ?_
 . rintro e a' w' h
   cases e <;> first | exact h.elim | skip
   obtain ⟨h1, h2, rfl⟩:= h
   exact ⟨h1, h2, tn_on u t⟩
 rintro a u1 ⟨hA, h0, hT1⟩
 have hz1:= Nat.le_trans hb hT1.size
 have hlt32:= pickN_lt c0 32 (by decide)
 obtain ⟨wd, hwd⟩ : ∃ wd, wd = 1 + pickN c0 32:= ⟨_, rfl⟩
 refine LSc.c_seq (x:= cL (cR beC)) (y:= cR (cR beC)) ?_
 refine LSc.norm (fun a' u' => Ba a' /\ ∃ wb, tm a' 3 = .pointer (some ⟨wb, 0, none⟩) /\ base <= wb /\ LwRaw u' wb wd /\ base <= u'.heap.size /\ Old base u u') (X.fit (by kernel_rfl)) (fun t => Code.wp_mono ?_ (be_1 (u:= World.on u1 t) hA h0 hc)) (fun a' u' t ⟨h1, wb, h2, h3, h4, h5, h6⟩ => ⟨h1, wb, h2, h3, h4, h5, h6⟩) ?_
 . rintro e a' w' h
   cases e <;> first | exact h.elim | skip
   obtain ⟨h1, wb, h2, h3, h4, h5⟩:= h
   exact ⟨h1, wb, h2, Nat.le_trans hz1 h3, by rw [hwd]; exact h4, Nat.le_trans hz1 h5.size, fun k hk => (h5.block k (Nat.lt_of_lt_of_le hk hz1)).trans (hT1.old k hk)⟩
 rintro a u2 ⟨hA, wb, h3, hwb, hR2, hz2, hO2⟩
 refine LSc.c_seq (x:= cL (cR (cR beC))) (y:= cR (cR (cR beC))) ?_
 refine LSc.norm (fun a' u' => Ba a' /\ tm a' 3 = .pointer (some ⟨wb, 0, none⟩) /\ LwRaw u' wb wd /\ base <= u'.heap.size /\ Old base u u' /\ ∃ s bb cb vb, tm a' 4 = .pointer (some ⟨s, 0, none⟩) /\ tm a' 5 = .int .i64 0 /\ StoreAt u' s wd bb cb vb 0 /\ TAt (dgw wd) u' .empty bb /\ MapAt Tryz.prog strT u' cb 0 (fun _ => none) /\ MapAt Tryz.prog intT u' vb 0 (fun _ => none) /\ cb ≠ vb /\ base <= s /\ base <= cb /\ base <= vb) (X.fit (by kernel_rfl))
   (fun t => Code.wp_mono ?_ (be_2 (u:= World.on u2 t) (dg:= dgw wd) hA h3 hR2 (by omega) (by omega))) (fun a' u' t ⟨h1, h2, h3, h4, h5, s, bb, cb, vb, k1, k2, k3, k4, k5, k6, k7⟩ => ⟨h1, h2, h3, h4, h5, s, bb, cb, vb, k1, k2, k3, k4.on t, k5.same rfl, k6.same rfl, k7⟩) ?_
 . rintro e a' w' h
   cases e <;> first | exact h.elim | skip
   obtain ⟨h1, h2, s, bb, cb, vb, k1, k2, k3, k4, k5, k6, k7, k8, k9, k10, hB⟩:= h
   exact ⟨h1, h2, (hB.block wb (Array.getElem?_eq_some_iff.1 hR2).1).trans hR2, Nat.le_trans hz2 hB.size, fun k hk => (hB.block k (Nat.lt_of_lt_of_le hk hz2)).trans (hO2 k hk), s, bb, cb, vb, k1, k2, k3, k4, k5, k6, k7, Nat.le_trans hz2 k8, Nat.le_trans hz2 k9, Nat.le_trans hz2 k10⟩
 rintro a u3 ⟨hA, h3, hR3, hz3, hO3, s, bb, cb, vb, h4, h5, hS3, hT3, hM3, hV3, hcv, hbs, hbc, hbv⟩
 refine LSc.c_seq (x:= cL (cR (cR (cR beC)))) (y:= cR (cR (cR (cR beC)))) ?_
 refine LSc.norm (fun a' u' => Ba a' /\ tm a' 3 = .pointer (some ⟨wb, 0, none⟩) /\ tm a' 4 = .pointer (some ⟨s, 0, none⟩) /\ ∃ t, u' = World.on u3 t) (X.fit (by kernel_rfl)) (fun t => Code.wp_mono ?_ (be_3 (u:= World.on u3 t) hA h3 h4 h5)) (fun a' u' t ⟨h1, h2, h3, t', e⟩ => ⟨h1, h2, h3, t, by rw [e]; rfl⟩) ?_
 . rintro e a' w' h
   cases e <;> first | exact h.elim | skip
   obtain ⟨h1, h2, h3, rfl⟩:= h
   exact ⟨h1, h2, h3, t, rfl⟩
 rintro a u4 ⟨hA, h3, h4, t4, rfl⟩
 refine LSc.c_seq (x:= cL (cR (cR (cR (cR beC))))) (y:= cR (cR (cR (cR (cR beC))))) ?_
 refine LSc.norm (fun a' u' => Ba a' /\ tm a' 3 = .pointer (some ⟨wb, 0, none⟩) /\ tm a' 4 = .pointer (some ⟨s, 0, none⟩) /\ ∃ t, u' = World.on (u3.setCell ⟨wb, 0, none⟩ (.pointer (ptr s))) t) (X.fit (by kernel_rfl)) (fun t => Code.wp_mono ?_ (be_5 (u:= World.on (World.on u3 t4) t) hA h3 h4 hR3)) (fun a' u' t ⟨h1, h2, h3, t', e⟩ => ⟨h1, h2, h3, t, by rw [e]; rfl⟩) ?_
 . rintro e a' w' h
   cases e <;> first | exact h.elim | skip
   obtain ⟨h1, h2, h3, rfl⟩:= h
   exact ⟨h1, h2, h3, t, rfl⟩
 rintro a u5 ⟨hA, h3, h4, t5, rfl⟩
 have hTs:= hR3.tn (base:= base) hwb (.pointer (ptr s))
 have hsc : s ≠ cb:= fun e => by subst e; obtain ⟨D, ⟨es0, cl0, e0, _⟩, _⟩:= hM3; unfold StoreAt at hS3; rw [hS3] at e0; cases e0
 have hsv : s ≠ vb:= fun e => by subst e; obtain ⟨D, ⟨es0, cl0, e0, _⟩, _⟩:= hV3; unfold StoreAt at hS3; rw [hS3] at e0; cases e0
 have hL5 : Lw base (World.on (u3.setCell ⟨wb, 0, none⟩ (.pointer (ptr s))) t5) wd 0 [] [] [] [] wb s bb cb vb (fun _ => none) (fun _ => none) [] .empty nilS nilS nilS nilS []:= by
   have h : Lw base (u3.setCell ⟨wb, 0, none⟩ (.pointer (ptr s))) wd 0 [] [] [] [] wb s bb cb vb (fun _ => none) (fun _ => none) [] .empty nilS nilS nilS nilS [] :=
     { lw:= hR3.set s, lo:= ⟨hwb, hbs, hbc, hbv⟩, bound:= Nat.le_trans hz3 hTs.size, wide:= ⟨by omega, by omega⟩, store:= hTs.store (by decide) hS3, changes:= hTs.map (fun e => e) hM3, versions:= hTs.map (fun e => e) hV3,
       apart:= ⟨hsc, hsv, hcv⟩, tree:= hTs.nd (by decide) hT3, rep:= .empty, rowB:= Row.nil, rowN:= Row.nil, chg:= Chg.start _, count:= ⟨Nat.le_refl _, by decide⟩, lens:= ⟨rfl, rfl, rfl⟩, rnow:= OwnP.nil _ _,
       rall:= ⟨rfl, .inl ⟨rfl, rfl⟩⟩, rx:= fun i hi => absurd hi (Nat.not_lt_zero _), rroots:= ⟨rfl, .inl ⟨rfl, rfl⟩⟩, rgone:= ⟨rfl, .inl ⟨rfl, rfl⟩⟩, vers:= fun i hi => absurd hi (Nat.not_lt_zero _), rts:= fun i hi => absurd hi (Nat.not_lt_zero _) }
   exact h.still (tn_on _ t5)
 have hO5 : Old base u (World.on (u3.setCell ⟨wb, 0, none⟩ (.pointer (ptr s))) t5):= fun k hk => (hTs.old k hk).trans (hO3 k hk)
 generalize World.on (u3.setCell ⟨wb, 0, none⟩ (.pointer (ptr s))) t5 = u5 at hL5 hO5 ⊢
 clear hTs hR3 hS3 hT3 hM3 hV3 hR2
 have hsz:= hA.size
 -- three steps
 refine LSc.c_seq (x:= cL (cR (cR (cR (cR (cR beC)))))) (y:= cR (cR (cR (cR (cR (cR beC)))))) ?_
 refine LSc.c_region (ops:= opsOf (cL (cR (cR (cR (cR (cR beC))))))) ?_
 show LSc _ _ _ (Conc.G (Frame.at _ _ (.inRegion _ [0, 1, 2, 3] :: _)) _) _
 refine LSc.mv 36 (.pointer (some ⟨wb, 0, none⟩)) (.tmp 3) rfl (X.free (by rfl)) rfl rfl rfl (.inl rfl) (by rw [tm_eval]; exact h3) ?_
 refine LSc.bld 37 (.agg #[.int .i64 5, .int .i64 0, .int .i64 0]) stpT #[(0, .const (.int .i64 5))] rfl (X.free (by rfl)) rfl rfl rfl rfl (by intro w; simp [go_sem]) ?_
 refine LSc.enterAt (f:= 5) (args:= #[.tmp 36, .tmp 37]) (vs:= #[.pointer (some ⟨wb, 0, none⟩), .agg #[.int .i64 5, .int .i64 0, .int .i64 0]]) rfl rfl rfl rfl Tryz.func5 (by rfl) rfl (by intro x hx; simp at hx; rcases hx with rfl | rfl <;> trivial)
   (by simp [tm_eval, tm_eq, tm_ne, Eq.size_put, hsz]) ((X.runs _).2 (.inr (by decide))) ?_
 refine does_commit X hO hL5 ⟨by decide, by decide⟩ ⟨by decide, by decide⟩ ⟨by decide, by decide⟩ (by decide) (by decide) _ _ (fun v ch e => by rw [Frame.finish_at] at e; cases e) ?_
 rintro x u6 ⟨r1, rfl, hO6, bb, F, G, B, t, vnow, vall, vroots, vgone, xs, hL6⟩
 rw [Frame.finish_at]
 show LSc _ _ _ (Conc.G (Frame.at _ (Act.put _ (some 38) _) (.inRegion _ [3] :: _)) _) _
 refine LSc.mv 6 (.bool true) (.tmp 38) rfl (X.free (by rfl)) rfl rfl rfl (.inr rfl) (by rw [tm_eval, tm_eq (by simp [Eq.size_put, hsz])]) ?_
 refine LSc.c_rend ?_
 generalize hact : Act.put (Act.put (Act.put _ _ _) _ _) (some 6) _ = a6
 have hA6 : Ba a6 /\ tm a6 3 = .pointer (some ⟨wb, 0, none⟩) /\ tm a6 4 = .pointer (some ⟨s, 0, none⟩) /\ tm a6 6 = .bool true:= by
   rw [<- hact]
   exact ⟨(((hA.put _ _).put _ _).put _ _).put _ _, by simp [tm_ne, h3], by simp [tm_ne, h4], by rw [tm_eq (by simp [Eq.size_put, hsz])]⟩
 clear hact hA h3 h4 hsz hL5
 obtain ⟨hA, h3, h4, h6⟩:= hA6
 have hsz:= hA.size
 have hw6:= hL6.wide
 refine LSc.c_seq (x:= cL (cR (cR (cR (cR (cR (cR beC))))))) (y:= (cR (cR (cR (cR (cR (cR (cR beC)))))))) ?_
 refine LSc.c_region (ops:= opsOf (cL (cR (cR (cR (cR (cR (cR beC)))))))) ?_
 show LSc _ _ _ (Conc.G (Frame.at _ _ (.inRegion _ [0, 1, 2, 3] :: _)) _) _
 refine LSc.mv 39 (.pointer (some ⟨wb, 0, none⟩)) (.tmp 3) rfl (X.free (by rfl)) rfl rfl rfl (.inl rfl) (by rw [tm_eval]; exact h3) ?_
 refine LSc.bld 40 (.agg #[.int .i64 0, .int .i64 0, .int .i64 1]) stpT #[(0, .const (.int .i64 0)), (1, .const (.int .i64 0)), (2, .const (.int .i64 1))] rfl (X.free (by rfl)) rfl rfl rfl rfl (by intro w; simp [go_sem]) ?_
 refine LSc.enterAt (f:= 5) (args:= #[.tmp 39, .tmp 40]) (vs:= #[.pointer (some ⟨wb, 0, none⟩), .agg #[.int .i64 0, .int .i64 0, .int .i64 1]]) rfl rfl rfl rfl Tryz.func5 (by rfl) rfl (by intro x hx; simp at hx; rcases hx with rfl | rfl <;> trivial)
   (by simp [tm_eval, tm_eq, tm_ne, Eq.size_put, hsz]) ((X.runs _).2 (.inr (by decide))) ?_
 refine does_set X hL6 ⟨by decide, by decide⟩ ⟨by decide, by decide⟩ ⟨by decide, by decide⟩ (by decide) (by decide) (by decide) _ _ (fun v ch e => by rw [Frame.finish_at] at e; cases e) ?_
 clear hL6
 rintro x u7 ⟨rfl, hO7, bb, F, G, B, t, vnow, vall, vroots, vgone, xs, hL7⟩
 rw [Frame.finish_at]
 show LSc _ _ _ (Conc.G (Frame.at _ (Act.put _ (some 41) _) (.inRegion _ [3] :: _)) _) _
 refine LSc.mv 7 (.bool true) (.tmp 41) rfl (X.free (by rfl)) rfl rfl rfl (.inr rfl) (by rw [tm_eval, tm_eq (by simp [Eq.size_put, hsz])]) ?_
 refine LSc.c_rend ?_
 generalize hact : Act.put (Act.put (Act.put _ _ _) _ _) (some 7) _ = a7
 have hA7 : Ba a7 /\ tm a7 3 = .pointer (some ⟨wb, 0, none⟩) /\ tm a7 4 = .pointer (some ⟨s, 0, none⟩) /\ tm a7 6 = .bool true /\ tm a7 7 = .bool true:= by
   rw [<- hact]
   exact ⟨(((hA.put _ _).put _ _).put _ _).put _ _, by simp [tm_ne, h3], by simp [tm_ne, h4], by simp [tm_ne, h6], by rw [tm_eq (by simp [Eq.size_put, hsz])]⟩
 clear hact hA h3 h4 h6 hsz
 obtain ⟨hA, h3, h4, h6, h7⟩:= hA7
 have hsz:= hA.size
 refine LSc.c_seq (x:= cL (cR (cR (cR (cR (cR (cR (cR beC)))))))) (y:= (cR (cR (cR (cR (cR (cR (cR (cR beC))))))))) ?_
 refine LSc.c_region (ops:= opsOf (cL (cR (cR (cR (cR (cR (cR (cR beC))))))))) ?_
 show LSc _ _ _ (Conc.G (Frame.at _ _ (.inRegion _ [0, 1, 2, 3] :: _)) _) _
 refine LSc.mv 42 (.pointer (some ⟨wb, 0, none⟩)) (.tmp 3) rfl (X.free (by rfl)) rfl rfl rfl (.inl rfl) (by rw [tm_eval]; exact h3) ?_
 refine LSc.bld 43 (.agg #[.int .i64 5, .int .i64 0, .int .i64 0]) stpT #[(0, .const (.int .i64 5))] rfl (X.free (by rfl)) rfl rfl rfl rfl (by intro w; simp [go_sem]) ?_
 refine LSc.enterAt (f:= 5) (args:= #[.tmp 42, .tmp 43]) (vs:= #[.pointer (some ⟨wb, 0, none⟩), .agg #[.int .i64 5, .int .i64 0, .int .i64 0]]) rfl rfl rfl rfl Tryz.func5 (by rfl) rfl (by intro x hx; simp at hx; rcases hx with rfl | rfl <;> trivial)
   (by simp [tm_eval, tm_eq, tm_ne, Eq.size_put, hsz]) ((X.runs _).2 (.inr (by decide))) ?_
 refine does_commit X hO hL7 ⟨by decide, by decide⟩ ⟨by decide, by decide⟩ ⟨by decide, by decide⟩ (by decide) (by decide) _ _ (fun v ch e => by rw [Frame.finish_at] at e; cases e) ?_
 clear hL7
 rintro x u8 ⟨r2, rfl, hO8, bb, F, G, B, t, vnow, vall, vroots, vgone, xs, hL8⟩
 rw [Frame.finish_at]
 show LSc _ _ _ (Conc.G (Frame.at _ (Act.put _ (some 44) _) (.inRegion _ [3] :: _)) _) _
 refine LSc.mv 8 (.bool true) (.tmp 44) rfl (X.free (by rfl)) rfl rfl rfl (.inr rfl) (by rw [tm_eval, tm_eq (by simp [Eq.size_put, hsz])]) ?_
 refine LSc.c_rend ?_
 generalize hact : Act.put (Act.put (Act.put _ _ _) _ _) (some 8) _ = a8
 have hA8 : Bt a8 wb s:= by
   rw [<- hact]
   exact ⟨(((hA.put _ _).put _ _).put _ _).put _ _, by simp [tm_ne, h3], by simp [tm_ne, h4], by simp [tm_ne, h6], by simp [tm_ne, h7], by rw [tm_eq (by simp [Eq.size_put, hsz])]⟩
 clear hact hA h3 h4 h6 h7 hsz
 have hnow : kput (ks (pickN 0 20)) (valN (pickN 1 6)) ([] : KV) = [([65], ⟨#[120]⟩)]:= rfl
 rw [hnow] at hL8
 -- it has what it was given
 refine LSc.c_seq (x:= cL (cR (cR (cR (cR (cR (cR (cR (cR beC))))))))) (y:= (cR (cR (cR (cR (cR (cR (cR (cR (cR beC)))))))))) ?_
 have hk0 : ([65] : List UInt8) ∈ kall:= by decide
 have hget : ∀ tp, Calls Tryz.prog 8 #[.pointer (some ⟨s, 0, none⟩), .string ⟨#[65]⟩] (World.on u8 tp) fun e w' => e = .returned (.tuple #[.string ⟨#[120]⟩, .int .i64 0]) /\ Below (World.on u8 tp).heap.size (World.on u8 tp) w':= fun tp => getL (hL8.still (tn_on u8 tp)) hk0
 refine LSc.norm (fun a' u' => Bt a' wb s /\ tm a' 9 = .string ⟨#[120]⟩ /\ tm a' 10 = .int .i64 0 /\ Tn base (fun _ => False) (fun _ => False) u8 u') (X.fit (by kernel_rfl)) (fun t => Code.wp_mono ?_ (be_9 (u:= World.on u8 t) hA8 (hget t))) (fun a' u' t ⟨h1, h2, h3, h4⟩ => ⟨h1, h2, h3, h4.on t⟩) ?_
 . rintro e a' w' h
   cases e <;> first | exact h.elim | skip
   obtain ⟨h1, h2, h3, h4⟩:= h
   exact ⟨h1, h2, h3, (Tn.below h4 hL8.bound).on' _⟩
 rintro a u9 ⟨hA, h9, h10, hT9⟩
 have hL9:= hL8.still hT9
 refine LSc.c_seq (x:= cL (cR (cR (cR (cR (cR (cR (cR (cR (cR beC)))))))))) (y:= (cR (cR (cR (cR (cR (cR (cR (cR (cR (cR beC))))))))))) ?_
 have hwalk : ∀ tp, Calls Tryz.prog 9 #[.pointer (some ⟨s, 0, none⟩), .int .i64 2] (World.on u9 tp) fun e w' => ∃ vl, e = .returned (.tuple #[vl, .int .i64 0]) /\ OwnP (World.on u9 tp).heap.size w' vl [(⟨#[65]⟩, ⟨#[120]⟩)] /\ Below (World.on u9 tp).heap.size (World.on u9 tp) w':= fun tp =>
   walkL (m:= 1) (hL9.still (tn_on u9 tp)) (by simp) (g:= false) rfl
 refine LSc.norm (fun a' u' => Bt a' wb s /\ tm a' 9 = .string ⟨#[120]⟩ /\ tm a' 10 = .int .i64 0 /\ tm a' 12 = .int .i64 0 /\ (∃ vl, tm a' 11 = vl /\ OwnP base u' vl [(⟨#[65]⟩, ⟨#[120]⟩)]) /\ Tn base (fun _ => False) (fun _ => False) u9 u') (X.fit (by kernel_rfl)) (fun t => Code.wp_mono ?_ (be_10 (u:= World.on u9 t) hA h9 h10 (hwalk t))) (fun a' u' t ⟨h1, h2, h3, h4, h5, h6⟩ => ⟨h1, h2, h3, h4, h5, h6.on t⟩) ?_
 . rintro e a' w' h
   cases e <;> first | exact h.elim | skip
   obtain ⟨h1, h2, h3, h4, vl, h5, h6, h7⟩:= h
   exact ⟨h1, h2, h3, h4, ⟨vl, h5, ownsRow_base h6 hL9.bound⟩, (Tn.below h7 hL9.bound).on' _⟩
 rintro a u10 ⟨hA, h9, h10, h12, ⟨vl, h11, hOv⟩, hT10⟩
 have hL10:= hL9.still hT10
 refine LSc.c_seq (x:= cL (cR (cR (cR (cR (cR (cR (cR (cR (cR (cR beC))))))))))) (y:= (cR (cR (cR (cR (cR (cR (cR (cR (cR (cR (cR beC)))))))))))) ?_
 refine LSc.norm (fun a' u' => Ba a' /\ tm a' 3 = .pointer (some ⟨wb, 0, none⟩) /\ Tn base (fun _ => False) (fun _ => False) u10 u') (X.fit (by kernel_rfl)) (fun t => Code.wp_mono ?_ (be_11 (u:= World.on u10 t) (base:= base) hA h9 h10 h12 h11 hOv)) (fun a' u' t ⟨h1, h2, h3⟩ => ⟨h1, h2, h3.on t⟩) ?_
 . rintro e a' w' h
   cases e <;> first | exact h.elim | skip
   obtain ⟨h1, h2, rfl⟩:= h
   exact ⟨h1, h2, tn_on u10 t⟩
 rintro a u11 ⟨hA, h3, hT11⟩
 refine LSc.c_seq (x:= cL (cR (cR (cR (cR (cR (cR (cR (cR (cR (cR (cR beC)))))))))))) (y:= (cR (cR (cR (cR (cR (cR (cR (cR (cR (cR (cR (cR beC))))))))))))) ?_
 refine LSc.norm (fun a' u' => Ba a' /\ tm a' 2 = .pointer (some ⟨wb, 0, none⟩) /\ Tn base (fun _ => False) (fun _ => False) u10 u') (X.fit (by kernel_rfl)) (fun t => Code.wp_mono ?_ (be_13 (u:= World.on u11 t) hA h3)) (fun a' u' t ⟨h1, h2, h3⟩ => ⟨h1, h2, h3.on t⟩) ?_
 . rintro e a' w' h
   cases e <;> first | exact h.elim | skip
   obtain ⟨h1, h2, rfl⟩:= h
   exact ⟨h1, h2, hT11.on t⟩
 rintro a u12 ⟨hA, h2, hT12⟩
 refine LSc.retAt (v:= .pointer (some ⟨wb, 0, none⟩)) rfl hA.defers Tryz.func4 (fun w => ?_) (fun w => ?_) hmode (K _ _ ⟨wb, _, _, _, _, _, s, _, _, _, _, _, _, _, _, _, _, _, _, rfl, fun k hk => ((((hT12.old k hk).trans (hT10.old k hk)).trans (hT9.old k hk)).trans (hO8 k hk)).trans ((hO7 k hk).trans ((hO6 k hk).trans (hO5 k hk))), ?_, hL10.still hT12⟩)
 . simp only [tm] at h2
   rw [results_tmp (t:= 2) rfl]
   simp [h2]
 . simp [results, Tryz.results4]
 . simp
end
end Go.Proofs.YtddcbeeldjjmeaaGreat
namespace Go.Proofs.YtddcbeeldjjmeaaGreat
open Go Go.Conc Go.RowKit Go.Nest Go.Tm Go.Proofs.YtddcbeeldjjmeaaGreat.Tw Go.Maps Go.Sort Go.Shelf Go.Eq
set_option linter.unusedVariables false
set_option linter.unusedSimpArgs false
noncomputable abbrev mpC : Code:= bodyOf Tryz.f3
structure Ma (a : Act) : Prop where
 size : a.tmps.size = 196
 defers : a.defers = []
theorem Ma.out {a : Act} (h : Ma a) : a = ⟨([tm a 0, tm a 1, tm a 2, tm a 3, tm a 4, tm a 5, tm a 6, tm a 7, tm a 8, tm a 9, tm a 10, tm a 11, tm a 12, tm a 13, tm a 14, tm a 15, tm a 16, tm a 17, tm a 18, tm a 19, tm a 20, tm a 21, tm a 22, tm a 23, tm a 24, tm a 25, tm a 26, tm a 27, tm a 28, tm a 29, tm a 30, tm a 31, tm a 32, tm a 33, tm a 34, tm a 35, tm a 36, tm a 37, tm a 38, tm a 39, tm a 40, tm a 41, tm a 42, tm a 43, tm a 44, tm a 45, tm a 46, tm a 47, tm a 48, tm a 49, tm a 50, tm a 51, tm a 52, tm a 53, tm a 54, tm a 55, tm a 56, tm a 57, tm a 58, tm a 59, tm a 60, tm a 61, tm a 62, tm a 63, tm a 64, tm a 65, tm a 66, tm a 67, tm a 68, tm a 69, tm a 70, tm a 71, tm a 72, tm a 73, tm a 74, tm a 75, tm a 76, tm a 77, tm a 78, tm a 79, tm a 80, tm a 81, tm a 82, tm a 83, tm a 84, tm a 85, tm a 86, tm a 87, tm a 88, tm a 89, tm a 90, tm a 91, tm a 92, tm a 93, tm a 94, tm a 95, tm a 96, tm a 97, tm a 98, tm a 99, tm a 100, tm a 101, tm a 102, tm a 103, tm a 104, tm a 105, tm a 106, tm a 107, tm a 108, tm a 109, tm a 110, tm a 111, tm a 112, tm a 113, tm a 114, tm a 115, tm a 116, tm a 117, tm a 118, tm a 119, tm a 120, tm a 121, tm a 122, tm a 123, tm a 124, tm a 125, tm a 126, tm a 127, tm a 128, tm a 129, tm a 130, tm a 131, tm a 132, tm a 133, tm a 134, tm a 135, tm a 136, tm a 137, tm a 138, tm a 139, tm a 140, tm a 141, tm a 142, tm a 143, tm a 144, tm a 145, tm a 146, tm a 147, tm a 148, tm a 149, tm a 150, tm a 151, tm a 152, tm a 153, tm a 154, tm a 155, tm a 156, tm a 157, tm a 158, tm a 159, tm a 160, tm a 161, tm a 162, tm a 163, tm a 164, tm a 165, tm a 166, tm a 167, tm a 168, tm a 169, tm a 170, tm a 171, tm a 172, tm a 173, tm a 174, tm a 175, tm a 176, tm a 177, tm a 178, tm a 179, tm a 180, tm a 181, tm a 182, tm a 183, tm a 184, tm a 185, tm a 186, tm a 187, tm a 188, tm a 189, tm a 190, tm a 191, tm a 192, tm a 193, tm a 194, tm a 195]).toArray, []⟩:= act_out h.size h.defers
theorem Ma.put {a : Act} (h : Ma a) (d : Nat) (v : Value) : Ma (a.put (some d) v):= ⟨by rw [Eq.size_put]; exact h.size, by rw [defers_put]; exact h.defers⟩
noncomputable abbrev mL1 : Code:= cL (cR (cR (cR mpC)))
noncomputable abbrev mBd1 : Code:= cB (cB (cR mL1))
noncomputable abbrev mIn1 : Code:= cB (cL (cR mBd1))
noncomputable abbrev mL2 : Code:= cL (cR (cR (cR (cR mpC))))
noncomputable abbrev mBd2 : Code:= cB (cB (cR mL2))
noncomputable abbrev mIn2 : Code:= cB (cL (cR mBd2))
structure Script where
 ps : List (Int × Int × Int)
 ok : ∀ x, x ∈ ps -> I64 x.1 /\ I64 x.2.1 /\ I64 x.2.2
def ScAt (u : World) (v : Value) (ps : List (Int × Int × Int)) : Prop :=
 ∃ p cap, v = .slice p ps.length cap /\ ∀ (i : Nat) (h : i < ps.length), ∃ ad : Addr, p = some ad /\ u.cell? (ad.add (i * 3)) = some (.int .i64 ps[i].1) /\ u.cell? ⟨(ad.add (i * 3)).block, (ad.add (i * 3)).off + 1, none⟩ = some (.int .i64 ps[i].2.1) /\ u.cell? ⟨(ad.add (i * 3)).block, (ad.add (i * 3)).off + 2, none⟩ = some (.int .i64 ps[i].2.2)
structure Mb (a : Act) (wb : Nat) (sv : Value) : Prop where
 ma : Ma a
 sc : tm a 1 = sv
 w : tm a 5 = .pointer (some ⟨wb, 0, none⟩)
set_option maxRecDepth 20000 in
theorem mp_0 {a : Act} {u : World} {c : Int} {sv : Value} (hA : Ma a) (h0 : tm a 0 = .int .i64 c) (h1 : tm a 1 = sv) :
   (cL mpC).wp Tryz.prog (onlyN fun a' u' => Ma a' /\ tm a' 0 = .int .i64 c /\ tm a' 1 = sv /\ u' = u) a u:= by
 rw [hA.out, h0, h1]
 simp only [mpC, cL, cR, bodyOf, Tryz.f3, Option.getD_some]
 go_wp2_with fail
 exact ⟨⟨rfl, rfl⟩, rfl, rfl, rfl⟩
set_option maxRecDepth 20000 in
theorem mp_2 {a : Act} {u : World} {wb : Nat} {sv : Value} (hA : Mb a wb sv) :
   (cL (cR (cR mpC))).wp Tryz.prog (onlyN fun a' u' => Mb a' wb sv /\ u' = u) a u:= by
 rw [hA.ma.out, hA.sc, hA.w]
 simp only [mpC, cL, cR, bodyOf, Tryz.f3, Option.getD_some]
 go_wp2_with fail
 exact ⟨⟨⟨rfl, rfl⟩, rfl, rfl⟩, rfl⟩
set_option maxRecDepth 20000 in
theorem mp_4 {a : Act} {u : World} {wb : Nat} {sv : Value} (hA : Mb a wb sv) :
   (cL mL1).wp Tryz.prog (onlyN fun a' u' => Mb a' wb sv /\ tm a' 6 = .int .i64 0 /\ u' = u) a u:= by
 rw [hA.ma.out, hA.sc, hA.w]
 simp only [mL1, mpC, cL, cR, bodyOf, Tryz.f3, Option.getD_some]
 go_wp2_with fail
 exact ⟨⟨⟨rfl, rfl⟩, rfl, rfl⟩, rfl, rfl⟩
set_option maxRecDepth 20000 in
theorem mp_5 {a : Act} {u : World} {wb n cap i : Nat} {p : Option Addr} (hA : Mb a wb (.slice p n cap)) (h6 : tm a 6 = .int .i64 i) :
   (cL (cL mBd1)).wp Tryz.prog (onlyN fun a' u' => Mb a' wb (.slice p n cap) /\ tm a' 6 = .int .i64 i /\ tm a' 27 = .bool (decide (i < n)) /\ u' = u) a u:= by
 rw [hA.ma.out, hA.sc, hA.w, h6]
 simp only [mBd1, mL1, mpC, cL, cR, cB, bodyOf, Tryz.f3, Option.getD_some]
 go_wp2_with fail
 exact ⟨⟨⟨rfl, rfl⟩, rfl, rfl⟩, rfl, rfl, rfl⟩
set_option maxRecDepth 20000 in
theorem mp_6 {a : Act} {u : World} {wb i : Nat} {sv : Value} (hA : Mb a wb sv) (h6 : tm a 6 = .int .i64 i) (hi : i <= 1000000000000000) :
   (cR (cR mBd1)).wp Tryz.prog (onlyN fun a' u' => Mb a' wb sv /\ tm a' 6 = .int .i64 ((i + 1 : Nat) : Int) /\ u' = u) a u:= by
 have hn : ((i + 1 : Nat) : Int) = (i : Int) + 1:= by omega
 rw [hA.ma.out, hA.sc, hA.w, h6, hn]
 simp only [mBd1, mL1, mpC, cL, cR, cB, bodyOf, Tryz.f3, Option.getD_some]
 go_wp2_with fail
 exact ⟨⟨⟨rfl, rfl⟩, rfl, rfl⟩, rfl, rfl⟩
set_option maxRecDepth 20000 in
set_option maxHeartbeats 1000000 in
theorem mp_8 {a : Act} {u : World} {wb n cap i : Nat} {ad : Addr} {k : Int} {KN g : ByteArray} {b : Bool} {vnow : Value} (hA : Mb a wb (.slice (some ad) n cap)) (h6 : tm a 6 = .int .i64 i) (h7 : tm a 7 = .bool true) (hi : i < n) (hn : n <= 1000000000000000)
   (c2 : u.cell? ⟨wb, 2, none⟩ = some vnow) (hv : ∃ p n c, vnow = .slice p n c) (hk : u.cell? ⟨(ad.add (i * 3)).block, (ad.add (i * 3)).off + 1, none⟩ = some (.int .i64 k))
   (hkey : ∀ w, Calls Tryz.prog 7 #[.int .i64 k] w fun e w' => e = .returned (.string KN) /\ Below w.heap.size w w')
   (hhas : ∀ u1, Below u.heap.size u u1 -> Calls Tryz.prog 6 #[vnow, .string KN] u1 fun e w' => e = .returned (.tuple #[.string g, .bool b]) /\ w' = u1) :
   (cL (cR mIn1)).wp Tryz.prog (onlyN fun a' u' => Mb a' wb (.slice (some ad) n cap) /\ tm a' 6 = .int .i64 i /\ tm a' 7 = .bool true /\ tm a' 8 = .string g /\ tm a' 9 = .bool b /\ Below u.heap.size u u') a u:= by
 obtain ⟨np, nn, nc, rfl⟩:= hv
 have hwl:= Tw.cell_lt c2
 have hkl:= Tw.cell_lt hk
 have d2 : u.drew.cell? ⟨wb, 2, none⟩ = some (.slice np nn nc):= c2
 have dk : u.drew.cell? ⟨(ad.add (i * 3)).block, (ad.add (i * 3)).off + 1, none⟩ = some (.int .i64 k):= hk
 rw [hA.ma.out, hA.sc, hA.w, h6, h7]
 simp only [mIn1, mBd1, mL1, mpC, cL, cR, cB, bodyOf, Tryz.f3, Option.getD_some]
 go_region_held3 (fun w' => w'.cell? ⟨wb, 2, none⟩ = some (.slice np nn nc) /\ w'.cell? ⟨(ad.add (i * 3)).block, (ad.add (i * 3)).off + 1, none⟩ = some (.int .i64 k)) (first | go_keep | exact ⟨d2, dk⟩ | exact ⟨e2, ek⟩)
   (first
   | (go_at_call 7; refine (hkey _).mono ?_; rintro e w2 ⟨rfl, hB2⟩; have hB2' : Below u.heap.size u w2:= below_mono (below_drewN u.heap.size u 1) hB2; have e2:= (hB2'.cell (p:= ⟨wb, 2, none⟩) hwl).trans c2; have ek:= (hB2'.cell (p:= ⟨(ad.add (i * 3)).block, (ad.add (i * 3)).off + 1, none⟩) hkl).trans hk)
   | (go_at_call 6; refine (hhas _ hB2').mono ?_; rintro e w3 ⟨rfl, hw3⟩; subst hw3))
 all_goals (go_wp2_with fail)
 all_goals exact ⟨⟨⟨rfl, rfl⟩, rfl, rfl⟩, rfl, rfl, rfl, rfl, hB2'⟩
set_option maxRecDepth 20000 in
set_option maxHeartbeats 1000000 in
theorem mp_9 {a : Act} {u : World} {wb s n cap i : Nat} {ad : Addr} {k e0 : Int} {KN g x : ByteArray} {b : Bool} (hA : Mb a wb (.slice (some ad) n cap)) (h6 : tm a 6 = .int .i64 i) (h7 : tm a 7 = .bool true) (h8 : tm a 8 = .string g) (h9 : tm a 9 = .bool b) (hi : i < n) (hn : n <= 1000000000000000)
   (c0 : u.cell? ⟨wb, 0, none⟩ = some (.pointer (some ⟨s, 0, none⟩))) (hk : u.cell? ⟨(ad.add (i * 3)).block, (ad.add (i * 3)).off + 1, none⟩ = some (.int .i64 k))
   (hkey : ∀ w, Calls Tryz.prog 7 #[.int .i64 k] w fun e w' => e = .returned (.string KN) /\ Below w.heap.size w w')
   (hget : ∀ u1, Below u.heap.size u u1 -> Calls Tryz.prog 8 #[.pointer (some ⟨s, 0, none⟩), .string KN] u1 fun e w' => e = .returned (.tuple #[.string x, .int .i64 e0]) /\ Below u1.heap.size u1 w') :
   (cL (cR (cR mIn1))).wp Tryz.prog (onlyN fun a' u' => Mb a' wb (.slice (some ad) n cap) /\ tm a' 6 = .int .i64 i /\ tm a' 7 = .bool true /\ tm a' 8 = .string g /\ tm a' 9 = .bool b /\ tm a' 10 = .string x /\ tm a' 11 = .int .i64 e0 /\ Below u.heap.size u u') a u:= by
 have hwl:= Tw.cell_lt c0
 have hkl:= Tw.cell_lt hk
 have d0 : u.drew.cell? ⟨wb, 0, none⟩ = some (.pointer (some ⟨s, 0, none⟩)):= c0
 have dk : u.drew.cell? ⟨(ad.add (i * 3)).block, (ad.add (i * 3)).off + 1, none⟩ = some (.int .i64 k):= hk
 rw [hA.ma.out, hA.sc, hA.w, h6, h7, h8, h9]
 simp only [mIn1, mBd1, mL1, mpC, cL, cR, cB, bodyOf, Tryz.f3, Option.getD_some]
 go_region_held3 (fun w' => w'.cell? ⟨wb, 0, none⟩ = some (.pointer (some ⟨s, 0, none⟩)) /\ w'.cell? ⟨(ad.add (i * 3)).block, (ad.add (i * 3)).off + 1, none⟩ = some (.int .i64 k)) (first | go_keep | exact ⟨d0, dk⟩ | exact ⟨e0', ek⟩ | exact ⟨f0, fk⟩)
   (first
   | (go_at_call 7; refine (hkey _).mono ?_; rintro e w2 ⟨rfl, hB2⟩; have hB2' : Below u.heap.size u w2:= below_mono (below_drewN u.heap.size u 1) hB2; have e0':= (hB2'.cell (p:= ⟨wb, 0, none⟩) hwl).trans c0; have ek:= (hB2'.cell (p:= ⟨(ad.add (i * 3)).block, (ad.add (i * 3)).off + 1, none⟩) hkl).trans hk)
   | (go_at_call 8; refine (hget _ hB2').mono ?_; rintro e w3 ⟨rfl, hB3⟩; have hB3' : Below u.heap.size u w3:= below_mono hB2' hB3; have f0:= (hB3'.cell (p:= ⟨wb, 0, none⟩) hwl).trans c0; have fk:= (hB3'.cell (p:= ⟨(ad.add (i * 3)).block, (ad.add (i * 3)).off + 1, none⟩) hkl).trans hk))
 all_goals (go_wp2_with fail)
 all_goals exact ⟨⟨⟨rfl, rfl⟩, rfl, rfl⟩, rfl, rfl, rfl, rfl, rfl, rfl, hB3'⟩
set_option maxRecDepth 20000 in
theorem mp_10 {a : Act} {u : World} {wb i : Nat} {sv : Value} {g : ByteArray} {b : Bool} (hA : Mb a wb sv) (h6 : tm a 6 = .int .i64 i) (h7 : tm a 7 = .bool true) (h8 : tm a 8 = .string g) (h9 : tm a 9 = .bool b) (h10 : tm a 10 = .string g) (h11 : tm a 11 = .int .i64 (if b then 0 else 7)) :
   (cR (cR (cR mIn1))).wp Tryz.prog (onlyN fun a' u' => Mb a' wb sv /\ tm a' 6 = .int .i64 i /\ u' = u) a u:= by
 have hl : (g.toList == g.toList) = true:= by simp
 rw [hA.ma.out, hA.sc, hA.w, h6, h7, h8, h9, h10, h11]
 simp only [mIn1, mBd1, mL1, mpC, cL, cR, cB, bodyOf, Tryz.f3, Option.getD_some]
 cases b
 . go_wp2_with fail
   exact ⟨⟨⟨rfl, rfl⟩, rfl, rfl⟩, rfl, rfl⟩
 . go_wp2_with fail
   exact ⟨⟨⟨rfl, rfl⟩, rfl, rfl⟩, rfl, rfl⟩
structure Mc (a : Act) (wb i : Nat) : Prop where
 ma : Ma a
 w : tm a 5 = .pointer (some ⟨wb, 0, none⟩)
 i : tm a 12 = .int .i64 i
set_option maxRecDepth 20000 in
theorem mp_12 {a : Act} {u : World} {wb : Nat} {sv : Value} (hA : Mb a wb sv) :
   (cL mL2).wp Tryz.prog (onlyN fun a' u' => Mc a' wb 0 /\ u' = u) a u:= by
 rw [hA.ma.out, hA.sc, hA.w]
 simp only [mL2, mpC, cL, cR, bodyOf, Tryz.f3, Option.getD_some]
 go_wp2_with fail
 exact ⟨⟨⟨rfl, rfl⟩, rfl, rfl⟩, rfl⟩
set_option maxRecDepth 20000 in
theorem mp_13 {a : Act} {u : World} {wb n cap i : Nat} {p : Option Addr} (hA : Mc a wb i) (c3 : u.cell? ⟨wb, 3, none⟩ = some (.slice p n cap)) :
   (cL (cL mBd2)).wp Tryz.prog (onlyN fun a' u' => Mc a' wb i /\ tm a' 83 = .bool (decide (i < n)) /\ u' = u) a u:= by
 rw [hA.ma.out, hA.i, hA.w]
 simp only [mBd2, mL2, mpC, cL, cR, cB, bodyOf, Tryz.f3, Option.getD_some]
 go_wp2_with fail
 exact ⟨⟨⟨rfl, rfl⟩, rfl, rfl⟩, rfl, rfl⟩
set_option maxRecDepth 20000 in
theorem mp_14 {a : Act} {u : World} {wb i : Nat} (hA : Mc a wb i) (hi : i <= 1000000000000000) :
   (cR (cR mBd2)).wp Tryz.prog (onlyN fun a' u' => Mc a' wb (i + 1) /\ u' = u) a u:= by
 have hn : ((i + 1 : Nat) : Int) = (i : Int) + 1:= by omega
 rw [hA.ma.out, hA.i, hA.w]
 simp only [mBd2, mL2, mpC, cL, cR, cB, bodyOf, Tryz.f3, Option.getD_some]
 go_wp2_with fail
 exact ⟨⟨⟨rfl, rfl⟩, rfl, by rw [hn]; rfl⟩, rfl⟩
set_option maxRecDepth 20000 in
theorem mp_15 {a : Act} {u : World} {base wb s i : Nat} {e0 : Int} {ps : List (ByteArray × ByteArray)} (hA : Mc a wb i) (hi : i <= 1000000000000000) (c0 : u.cell? ⟨wb, 0, none⟩ = some (.pointer (some ⟨s, 0, none⟩)))
   (hw : Calls Tryz.prog 9 #[.pointer (some ⟨s, 0, none⟩), .int .i64 ((i : Int) + 1)] u fun e w' => ∃ vl, e = .returned (.tuple #[vl, .int .i64 e0]) /\ OwnP u.heap.size w' vl ps /\ Below u.heap.size u w') :
   (cL mIn2).wp Tryz.prog (onlyN fun a' u' => Mc a' wb i /\ tm a' 14 = .int .i64 e0 /\ ∃ vl, tm a' 13 = vl /\ OwnP u.heap.size u' vl ps /\ Below u.heap.size u u') a u:= by
 rw [hA.ma.out, hA.i, hA.w]
 simp only [mIn2, mBd2, mL2, mpC, cL, cR, cB, bodyOf, Tryz.f3, Option.getD_some]
 go_wp2_with (go_at_call 9; refine hw.mono ?_; rintro e u2 ⟨vl, rfl, hO, hB⟩)
 exact ⟨⟨⟨rfl, rfl⟩, rfl, rfl⟩, rfl, vl, rfl, hO, hB⟩
set_option maxRecDepth 20000 in
theorem mp_16 {a : Act} {u : World} {wb s i : Nat} {e0 e1 r : Int} {vl : Value} (hA : Mc a wb i) (h14 : tm a 14 = .int .i64 e0) (h13 : tm a 13 = vl) (hi : i <= 1000000000000000) (c0 : u.cell? ⟨wb, 0, none⟩ = some (.pointer (some ⟨s, 0, none⟩)))
   (hw : Calls Tryz.prog 10 #[.pointer (some ⟨s, 0, none⟩), .int .i64 ((i : Int) + 1)] u fun e w' => e = .returned (.tuple #[.int .i64 r, .int .i64 e1]) /\ w' = u) :
   (cL (cR mIn2)).wp Tryz.prog (onlyN fun a' u' => Mc a' wb i /\ tm a' 13 = vl /\ tm a' 14 = .int .i64 e0 /\ tm a' 15 = .int .i64 r /\ tm a' 16 = .int .i64 e1 /\ u' = u) a u:= by
 rw [hA.ma.out, hA.i, hA.w, h13, h14]
 simp only [mIn2, mBd2, mL2, mpC, cL, cR, cB, bodyOf, Tryz.f3, Option.getD_some]
 go_wp2_with (go_at_call 10; refine hw.mono ?_; rintro e u2 ⟨rfl, rfl⟩)
 exact ⟨⟨⟨rfl, rfl⟩, rfl, rfl⟩, rfl, rfl, rfl, rfl, rfl⟩
set_option maxRecDepth 20000 in
theorem mp_17 {a : Act} {u : World} {wb i n g cap : Nat} {b : Bool} {e0 e1 r : Int} {vl : Value} (hA : Mc a wb i) (h13 : tm a 13 = vl) (h14 : tm a 14 = .int .i64 e0) (h15 : tm a 15 = .int .i64 r) (h16 : tm a 16 = .int .i64 e1) (hi : i < n) (hn : n <= 1000000000000000) (c5 : u.cell? ⟨wb, 5, none⟩ = some (.slice (some ⟨g, 0, none⟩) n cap)) (cg : u.cell? ⟨g, i, none⟩ = some (.bool b)) :
   (cL (cL (cR (cR mIn2)))).wp Tryz.prog (onlyN fun a' u' => Mc a' wb i /\ tm a' 13 = vl /\ tm a' 14 = .int .i64 e0 /\ tm a' 15 = .int .i64 r /\ tm a' 16 = .int .i64 e1 /\ tm a' 112 = .bool b /\ u' = u) a u:= by
 rw [hA.ma.out, hA.i, hA.w, h13, h14, h15, h16]
 simp only [mIn2, mBd2, mL2, mpC, cL, cR, cB, bodyOf, Tryz.f3, Option.getD_some]
 go_wp2_with fail
 exact ⟨⟨⟨rfl, rfl⟩, rfl, rfl⟩, rfl, rfl, rfl, rfl, rfl, rfl⟩
noncomputable abbrev mGone : Code:= cT (cR (cL (cR (cR mIn2))))
set_option maxRecDepth 20000 in
theorem mp_18 {a : Act} {u : World} {wb i cap : Nat} {p : Option Addr} (hA : Mc a wb i) (h13 : tm a 13 = .slice p 0 cap) (h14 : tm a 14 = .int .i64 9) (h15 : tm a 15 = .int .i64 0) (h16 : tm a 16 = .int .i64 9) :
   (cL mGone).wp Tryz.prog (onlyN fun a' u' => Mc a' wb i /\ u' = u) a u:= by
 rw [hA.ma.out, hA.i, hA.w, h13, h14, h15, h16]
 simp only [mGone, mIn2, mBd2, mL2, mpC, cL, cR, cB, cT, bodyOf, Tryz.f3, Option.getD_some]
 go_wp2_with fail
 exact ⟨⟨⟨rfl, rfl⟩, rfl, rfl⟩, rfl⟩
set_option maxRecDepth 20000 in
theorem mp_20 {a : Act} {u : World} {wb i n g cap : Nat} {r : Int} {vl x : Value} (hA : Mc a wb i) (h13 : tm a 13 = vl) (h14 : tm a 14 = .int .i64 0) (h15 : tm a 15 = .int .i64 r) (h16 : tm a 16 = .int .i64 0) (hi : i < n) (hn : n <= 1000000000000000) (c3 : u.cell? ⟨wb, 3, none⟩ = some (.slice (some ⟨g, 0, none⟩) n cap)) (cx : u.cell? ⟨g, i, none⟩ = some x)
   (hvl : ∃ p n c, vl = .slice p n c) (hx : ∃ p n c, x = .slice p n c)
   (hs : Calls Tryz.prog 11 #[vl, x] u fun e w' => e = .returned (.bool true) /\ ∃ n, w' = u.drewN n) :
   (cL (cR (cR (cR mIn2)))).wp Tryz.prog (onlyN fun a' u' => Mc a' wb i /\ tm a' 14 = .int .i64 0 /\ tm a' 15 = .int .i64 r /\ tm a' 16 = .int .i64 0 /\ tm a' 17 = .bool true /\ ∃ n, u' = u.drewN n) a u:= by
 obtain ⟨vp, vn, vc, rfl⟩:= hvl
 obtain ⟨xp, xn, xc, rfl⟩:= hx
 rw [hA.ma.out, hA.i, hA.w, h13, h14, h15, h16]
 simp only [mIn2, mBd2, mL2, mpC, cL, cR, cB, bodyOf, Tryz.f3, Option.getD_some]
 go_wp2_with (go_at_call 11; refine hs.mono ?_; rintro e u2 ⟨rfl, nn, rfl⟩)
 exact ⟨⟨⟨rfl, rfl⟩, rfl, rfl⟩, rfl, rfl, rfl, rfl, nn, rfl⟩
set_option maxRecDepth 20000 in
theorem mp_21 {a : Act} {u : World} {wb i n g cap : Nat} {r : Int} (hA : Mc a wb i) (h14 : tm a 14 = .int .i64 0) (h15 : tm a 15 = .int .i64 r) (h16 : tm a 16 = .int .i64 0) (h17 : tm a 17 = .bool true) (hi : i < n) (hn : n <= 1000000000000000) (c4 : u.cell? ⟨wb, 4, none⟩ = some (.slice (some ⟨g, 0, none⟩) n cap)) (cx : u.cell? ⟨g, i, none⟩ = some (.int .i64 r)) :
   (cL (cR (cR (cR (cR mIn2))))).wp Tryz.prog (onlyN fun a' u' => Mc a' wb i /\ u' = u) a u:= by
 rw [hA.ma.out, hA.i, hA.w, h14, h15, h16, h17]
 simp only [mIn2, mBd2, mL2, mpC, cL, cR, cB, bodyOf, Tryz.f3, Option.getD_some]
 go_wp2_with fail
 exact ⟨⟨⟨rfl, rfl⟩, rfl, rfl⟩, rfl⟩
noncomputable abbrev mEnd2 : Code:= cR (cR (cR (cR (cR mIn2))))
noncomputable abbrev mBd4 : Code:= cB (cB (cR mEnd2))
noncomputable abbrev mIn4 : Code:= cB (cL (cR mBd4))
structure Md (a : Act) (wb i k : Nat) : Prop where
 mc : Mc a wb i
 k : tm a 18 = .int .i64 k
set_option maxRecDepth 20000 in
theorem mp_23 {a : Act} {u : World} {wb i : Nat} (hA : Mc a wb i) :
   (cL mEnd2).wp Tryz.prog (onlyN fun a' u' => Md a' wb i 0 /\ u' = u) a u:= by
 rw [hA.ma.out, hA.i, hA.w]
 simp only [mEnd2, mIn2, mBd2, mL2, mpC, cL, cR, cB, bodyOf, Tryz.f3, Option.getD_some]
 go_wp2_with fail
 exact ⟨⟨⟨⟨rfl, rfl⟩, rfl, rfl⟩, rfl⟩, rfl⟩
set_option maxRecDepth 20000 in
theorem mp_24 {a : Act} {u : World} {wb i k : Nat} (hA : Md a wb i k) :
   (cL (cL mBd4)).wp Tryz.prog (onlyN fun a' u' => Md a' wb i k /\ tm a' 160 = .bool (decide (k < i)) /\ u' = u) a u:= by
 rw [hA.mc.ma.out, hA.mc.i, hA.mc.w, hA.k]
 simp only [mBd4, mEnd2, mIn2, mBd2, mL2, mpC, cL, cR, cB, bodyOf, Tryz.f3, Option.getD_some]
 go_wp2_with fail
 exact ⟨⟨⟨⟨rfl, rfl⟩, rfl, rfl⟩, rfl⟩, rfl, rfl⟩
set_option maxRecDepth 20000 in
theorem mp_25 {a : Act} {u : World} {wb i k : Nat} (hA : Md a wb i k) (hi : k <= 1000000000000000) :
   (cR (cR mBd4)).wp Tryz.prog (onlyN fun a' u' => Md a' wb i (k + 1) /\ u' = u) a u:= by
 have hn : ((k + 1 : Nat) : Int) = (k : Int) + 1:= by omega
 rw [hA.mc.ma.out, hA.mc.i, hA.mc.w, hA.k]
 simp only [mBd4, mEnd2, mIn2, mBd2, mL2, mpC, cL, cR, cB, bodyOf, Tryz.f3, Option.getD_some]
 go_wp2_with fail
 exact ⟨⟨⟨⟨rfl, rfl⟩, rfl, rfl⟩, by rw [hn]; rfl⟩, rfl⟩
set_option maxRecDepth 20000 in
set_option maxHeartbeats 1000000 in
theorem mp_26 {a : Act} {u : World} {wb i k n g cap : Nat} {x y : Value} {b : Bool} (hA : Md a wb i k) (hi : i < n) (hk : k < n) (hn : n <= 1000000000000000) (c3 : u.cell? ⟨wb, 3, none⟩ = some (.slice (some ⟨g, 0, none⟩) n cap)) (cx : u.cell? ⟨g, i, none⟩ = some x) (cy : u.cell? ⟨g, k, none⟩ = some y)
   (hx : ∃ p n c, x = .slice p n c) (hy : ∃ p n c, y = .slice p n c)
   (hs : Calls Tryz.prog 11 #[x, y] u.drew fun e w' => e = .returned (.bool b) /\ ∃ n, w' = u.drew.drewN n) :
   (cL mIn4).wp Tryz.prog (onlyN fun a' u' => Md a' wb i k /\ tm a' 19 = .bool b /\ ∃ n, u' = u.drewN n) a u:= by
 obtain ⟨xp, xn, xc, rfl⟩:= hx
 obtain ⟨yp, yn, yc, rfl⟩:= hy
 have d3 : u.drew.cell? ⟨wb, 3, none⟩ = some (.slice (some ⟨g, 0, none⟩) n cap):= c3
 have dx : u.drew.cell? ⟨g, i, none⟩ = some (.slice xp xn xc):= cx
 have dy : u.drew.cell? ⟨g, k, none⟩ = some (.slice yp yn yc):= cy
 rw [hA.mc.ma.out, hA.mc.i, hA.mc.w, hA.k]
 simp only [mIn4, mBd4, mEnd2, mIn2, mBd2, mL2, mpC, cL, cR, cB, bodyOf, Tryz.f3, Option.getD_some]
 go_region_held3 (fun w' => w'.cell? ⟨wb, 3, none⟩ = some (.slice (some ⟨g, 0, none⟩) n cap) /\ w'.cell? ⟨g, i, none⟩ = some (.slice xp xn xc) /\ w'.cell? ⟨g, k, none⟩ = some (.slice yp yn yc)) (first | go_keep | exact ⟨d3, dx, dy⟩)
   (first | (go_at_call 11; refine hs.mono ?_; rintro e w2 ⟨rfl, m, rfl⟩))
 all_goals (go_wp2_with fail)
 all_goals exact ⟨⟨⟨⟨rfl, rfl⟩, rfl, rfl⟩, rfl⟩, rfl, 1 + m, by first | rfl | rw [<- World.drewN_drewN]⟩
set_option maxRecDepth 20000 in
set_option maxHeartbeats 1000000 in
theorem mp_27 {a : Act} {u : World} {wb i k n g cap : Nat} {r q : Int} {b : Bool} (hA : Md a wb i k) (h19 : tm a 19 = .bool b) (hi : i < n) (hk : k < n) (hn : n <= 1000000000000000) (c4 : u.cell? ⟨wb, 4, none⟩ = some (.slice (some ⟨g, 0, none⟩) n cap)) (cx : u.cell? ⟨g, i, none⟩ = some (.int .i64 r)) (cy : u.cell? ⟨g, k, none⟩ = some (.int .i64 q)) (hb : b = true -> r = q) :
   (cL (cR mIn4)).wp Tryz.prog (onlyN fun a' u' => Md a' wb i k /\ tm a' 195 = .bool false /\ ∃ n, u' = u.drewN n) a u:= by
 have d4 : u.drew.cell? ⟨wb, 4, none⟩ = some (.slice (some ⟨g, 0, none⟩) n cap):= c4
 have dx : u.drew.cell? ⟨g, i, none⟩ = some (.int .i64 r):= cx
 have dy : u.drew.cell? ⟨g, k, none⟩ = some (.int .i64 q):= cy
 rw [hA.mc.ma.out, hA.mc.i, hA.mc.w, hA.k, h19]
 simp only [mIn4, mBd4, mEnd2, mIn2, mBd2, mL2, mpC, cL, cR, cB, bodyOf, Tryz.f3, Option.getD_some]
 cases b
 . go_quiet (fail)
   go_wp2_with fail
   exact ⟨⟨⟨⟨rfl, rfl⟩, rfl, rfl⟩, rfl⟩, rfl, nq, rfl⟩
 . have:= hb rfl
   subst this
   have hrr : (r != r) = false:= by simp
   go_quiet (fail)
   go_wp2_with fail
   exact ⟨⟨⟨⟨rfl, rfl⟩, rfl, rfl⟩, rfl⟩, by simp [tm], nq, rfl⟩
set_option maxRecDepth 20000 in
theorem mp_29 {a : Act} {u : World} {wb i : Nat} (hA : Mc a wb i) :
   (cL (cR (cR (cR (cR (cR mpC)))))).wp Tryz.prog (onlyN fun a' u' => Ma a' /\ tm a' 4 = .bool true /\ u' = u) a u:= by
 rw [hA.ma.out, hA.i, hA.w]
 simp only [mpC, cL, cR, bodyOf, Tryz.f3, Option.getD_some]
 go_wp2_with fail
 exact ⟨⟨rfl, rfl⟩, rfl, rfl⟩
end Go.Proofs.YtddcbeeldjjmeaaGreat
namespace Go.Eq
open Go Go.Conc Go.Nest
theorem LSc.ixa [Env] [Runs] {P : Program} {Orc : Oracle} {Stop : Frame -> World -> Prop} {u : World} {b : Frame} {a : Act} {k : List Item} {cs : List Frame} {ops : Array Oper} {i : Nat} {rest : List Nat} {o : Oper} (d : Nat) (ty : TypeId) (x y : Operand) (vx vy : Value) (q : Addr) (hk : b.kind = .normal) (hf : ¬ Runs.orc o) (ho : ops[i]? = some o) (hg : o.guard = none) (hd : o.dst = some d) (hop : o.op = .indexAddr ty x y) (hx : a.eval x = vx) (hy : a.eval y = vy)
   (hr : ∀ w, (Instr.indexAt ty vx vy).run P w = .ok (.pointer (some q)) w)
   (K : LSc P Orc Stop (Conc.G (b.at (a.put (some d) (.pointer (some q))) (.inRegion ops rest :: k)) cs) u) : LSc P Orc Stop (Conc.G (b.at a (.inRegion ops (i :: rest) :: k)) cs) u :=
 LSc.val (v:= .pointer (some q)) (u':= u) hf ho (wanted_none hg _) (by rw [hk]; decide) (fun t => by simp [execOp, hop, hx, hy, hr, Result.andThen]) (by rw [hd]; exact K)
end Go.Eq
namespace Go.Proofs.YtddcbeeldjjmeaaGreat
open Go Go.Conc Go.RowKit Go.Nest Go.Tm Go.Proofs.YtddcbeeldjjmeaaGreat.Tw Go.Maps Go.Sort Go.Shelf Go.Eq
set_option linter.unusedVariables false
set_option linter.unusedSimpArgs false
theorem ScAt.below {u u' : World} {v : Value} {ps : List (Int × Int × Int)} {base : Nat} (h : ScAt u v ps) (hlt : ∀ ad n c, v = .slice (some ad) n c -> ad.block < base) (ho : ∀ k, k < base -> u'.heap[k]? = u.heap[k]?) : ScAt u' v ps:= by
 obtain ⟨p, cap, rfl, hc⟩:= h
 refine ⟨p, cap, rfl, fun i hi => ?_⟩
 obtain ⟨ad, rfl, h0, h1, h2⟩:= hc i hi
 have hb:= hlt ad _ _ rfl
 have hbk : ∀ n, (ad.add n).block = ad.block:= fun n => by unfold Addr.add; split <;> rfl
 have key : ∀ (x : Addr) (y : Value), x.block = ad.block -> u.cell? x = some y -> u'.cell? x = some y:= fun x y hx hy => by
   unfold World.cell? at hy ⊢
   rw [ho x.block (by rw [hx]; exact hb)]
   exact hy
 exact ⟨ad, rfl, key _ _ (hbk _) h0, key _ _ (hbk _) h1, key _ _ (hbk _) h2⟩
section
variable [Env] [Runs] {Orc : Oracle} {Stop : Frame -> World -> Prop}
abbrev bMp : Frame:= Conc.base 3
def Lx (base : Nat) (u0 u : World) (wb s cnt : Nat) : Prop :=
 Old base u0 u /\ ∃ wd now all roots gn bb cb vb F G B t vnow vall vroots vgone xs, 0 < all.length /\ Lw base u wd cnt now all roots gn wb s bb cb vb F G B t vnow vall vroots vgone xs
set_option maxRecDepth 20000 in
set_option maxHeartbeats 1000000 in
theorem mp_round (X : Setup Tryz.prog fnsM outsM orcsM) (hO : Answers Orc) {base : Nat} {u0 u : World} {wb s cnt i : Nat} {sv : Value} {ps : List (Int × Int × Int)} {a : Act} {k : List Item} {cs : List Frame} (hA : Mb a wb sv) (h6 : tm a 6 = .int .i64 i) (hi : i < ps.length) (hps : ps.length <= 5864062014690) (hcnt : cnt + 1 <= 5864062014700)
   (hI : ∀ x, x ∈ ps -> I64 x.1 /\ I64 x.2.1 /\ I64 x.2.2) (hlt : ∀ ad n c, sv = .slice (some ad) n c -> ad.block < base) (hS : ScAt u0 sv ps) (hL : Lx base u0 u wb s cnt)
   (K : ∀ a' u', Mb a' wb sv -> tm a' 6 = .int .i64 i -> Lx base u0 u' wb s (cnt + 1) -> LSc Tryz.prog Orc Stop (Conc.G (bMp.at a' k) cs) u') :
   LSc Tryz.prog Orc Stop (Conc.G (bMp.at a (.code mIn1 :: k)) cs) u:= by
 obtain ⟨hold, wd, now, all, roots, gn, bb, cb, vb, F, G, B, t, vnow, vall, vroots, vgone, xs, hpos, hLw⟩:= hL
 have hS1:= hS.below hlt hold
 obtain ⟨p, cap, hsv, hc⟩:= id hS1
 subst hsv
 obtain ⟨ad, rfl, q0, q1, q2⟩:= hc i hi
 obtain ⟨i1, i2, i3⟩:= hI _ (List.getElem_mem hi)
 have hsz:= hA.ma.size
 generalize hkd : ps[i].1 = kd at q0 i1
 generalize hkk : ps[i].2.1 = kk at q1 i2
 generalize hvv : ps[i].2.2 = vv at q2 i3
 refine LSc.c_seq (x:= cL mIn1) (y:= cR mIn1) ?_
 refine LSc.c_region (ops:= opsOf (cL mIn1)) ?_
 show LSc _ _ _ (Conc.G (Frame.at _ _ (.inRegion _ [0, 1, 2, 3, 4, 5, 6] :: _)) _) _
 refine LSc.mv 30 (.pointer (some ⟨wb, 0, none⟩)) (.tmp 5) rfl (X.free (by rfl)) rfl rfl rfl (.inl rfl) (by rw [tm_eval]; exact hA.w) ?_
 refine LSc.mv 31 (.slice (some ad) ps.length cap) (.tmp 1) rfl (X.free (by rfl)) rfl rfl rfl (.inl rfl) (by rw [tm_eval, tm_ne (by decide)]; exact hA.sc) ?_
 refine LSc.mv 32 (.int .i64 i) (.tmp 6) rfl (X.free (by rfl)) rfl rfl rfl (.inl rfl) (by rw [tm_eval, tm_ne (by decide), tm_ne (by decide)]; exact h6) ?_
 refine LSc.ixa 33 22 (.tmp 31) (.tmp 32) (.slice (some ad) ps.length cap) (.int .i64 i) (ad.add (i * 3)) rfl (X.free (by rfl)) rfl rfl rfl rfl (by rw [tm_eval, tm_ne (by decide), tm_eq (by simp [Eq.size_put, hsz])]) (by rw [tm_eval, tm_eq (by simp [Eq.size_put, hsz])]) (by intro w; have g1 : ¬ ((i : Int) < 0):= (by omega); have g2 : (i : Int) < (ps.length : Int):= (by omega); have g3 : (0 : Int) <= (i : Int):= (by omega); simp [go_sem, g1, g2, g3, hi]) ?_
 refine LSc.ld 34 (.tmp 33) stpT (ad.add (i * 3)) (.agg #[.int .i64 kd, .int .i64 kk, .int .i64 vv]) rfl (X.free (by rfl)) rfl rfl rfl rfl (by rw [tm_eval, tm_eq (by simp [Eq.size_put, hsz])]) (by intro t'; have d0 : (World.on u t').cell? (ad.add (i * 3)) = some (.int .i64 kd):= q0; have d1 : (World.on u t').cell? ⟨(ad.add (i * 3)).block, (ad.add (i * 3)).off + 1, none⟩ = some (.int .i64 kk):= q1; have d2 : (World.on u t').cell? ⟨(ad.add (i * 3)).block, (ad.add (i * 3)).off + 2, none⟩ = some (.int .i64 vv):= q2; simp [go_sem, d0, d1, d2]) ?_
 refine LSc.enterAt (f:= 5) (args:= #[.tmp 30, .tmp 34]) (vs:= #[.pointer (some ⟨wb, 0, none⟩), .agg #[.int .i64 kd, .int .i64 kk, .int .i64 vv]]) rfl rfl rfl rfl Tryz.func5 (by rfl) rfl (by intro x hx; simp at hx; rcases hx with rfl | rfl <;> trivial)
   (by simp [tm_eval, tm_eq, tm_ne, Eq.size_put, hsz]) ((X.runs _).2 (.inr (by decide))) ?_
 refine does_any X hO hLw i1 i2 i3 hcnt hpos _ _ (fun v ch e => by rw [Frame.finish_at] at e; cases e) ?_
 clear hLw
 rintro x u2 ⟨now, all, roots, gn, hpos, rfl, hold2, bb, F, G, B, t, vnow, vall, vroots, vgone, xs, hL2⟩
 rw [Frame.finish_at]
 show LSc _ _ _ (Conc.G (Frame.at _ (Act.put _ (some 35) _) (.inRegion _ [6] :: _)) _) _
 refine LSc.mv 7 (.bool true) (.tmp 35) rfl (X.free (by rfl)) rfl rfl rfl (.inr rfl) (by rw [tm_eval, tm_eq (by simp [Eq.size_put, hsz])]) ?_
 refine LSc.c_rend ?_
 generalize hact : Act.put (Act.put (Act.put _ _ _) _ _) (some 7) _ = a2
 have hA2 : Mb a2 wb (.slice (some ad) ps.length cap) /\ tm a2 6 = .int .i64 i /\ tm a2 7 = .bool true:= by
   rw [<- hact]
   exact ⟨⟨((((((hA.ma.put _ _).put _ _).put _ _).put _ _).put _ _).put _ _).put _ _, by simp [tm_ne, hA.sc], by simp [tm_ne, hA.w]⟩, by simp [tm_ne, h6], by rw [tm_eq (by simp [Eq.size_put, hsz])]⟩
 clear hact hA h6 hsz
 obtain ⟨hA, h6, h7⟩:= hA2
 have hS2 : ScAt u2 (.slice (some ad) ps.length cap) ps:= hS.below hlt (hold.trans hold2)
 have hki:= pickN_lt kk 20 (by decide)
 have hkm:= ks_mem _ hki
 have hkey:= fun w => keyL_any kk w i2.1 i2.2
 rw [<- ks_S] at hkey
 generalize ks (pickN kk 20) = key at hkey hkm
 obtain ⟨g0, hgt⟩ : ∃ g0 : ByteArray, gotten (khas key now) = .tuple #[.string g0, .bool (khas key now).isSome] /\ told (khas key now) = .tuple #[.string g0, .int .i64 (if (khas key now).isSome then 0 else 7)]:= by
   cases khas key now with
   | none => exact ⟨_, rfl, rfl⟩
   | some x => exact ⟨_, rfl, rfl⟩
 have hvs : ∃ p n c, vnow = .slice p n c:= by obtain ⟨p, c, e⟩:= row_form hL2.rnow; exact ⟨p, _, c, e⟩
 have cell2 : ∀ (u' : World), ScAt u' (.slice (some ad) ps.length cap) ps -> u'.cell? ⟨(ad.add (i * 3)).block, (ad.add (i * 3)).off + 1, none⟩ = some (.int .i64 kk):= fun u' h => by
   obtain ⟨p', cap', e, hc'⟩:= h
   cases e
   obtain ⟨ad', e', _, h1, _⟩:= hc' i hi
   cases e'
   rw [hkk] at h1
   exact h1
 refine LSc.c_seq (x:= cL (cR mIn1)) (y:= cR (cR mIn1)) ?_
 refine LSc.norm (fun a' u' => Mb a' wb (.slice (some ad) ps.length cap) /\ tm a' 6 = .int .i64 i /\ tm a' 7 = .bool true /\ tm a' 8 = .string g0 /\ tm a' 9 = .bool (khas key now).isSome /\ Tn base (fun _ => False) (fun _ => False) u2 u') (X.fit (by kernel_rfl))
   (fun t => Code.wp_mono ?_ (mp_8 (u:= World.on u2 t) (g:= g0) (b:= (khas key now).isSome) hA h6 h7 hi (by omega) hL2.lw.cells.2.2.1 hvs (cell2 u2 hS2) hkey fun w1 hB1 => ?_)) (fun a' u' t ⟨h1, h2, h3, h4, h5, h6⟩ => ⟨h1, h2, h3, h4, h5, h6.on t⟩) ?_
 . rintro e a' w' h
   cases e <;> first | exact h.elim | skip
   obtain ⟨h1, h2, h3, h4, h5, h6⟩:= h
   exact ⟨h1, h2, h3, h4, h5, (Tn.below h6 hL2.bound).on' _⟩
 . have hT1 : Tn base (fun _ => False) (fun _ => False) u2 w1:= (Tn.below hB1 hL2.bound).on' _
   have:= has_any (w:= w1) (k:= Tw.S key) (OwnP.row (hL2.still hT1).rnow) (by rw [prs_length]; have:= hL2.rowN.len; omega)
   rw [phas_prs, hgt.1] at this
   exact this
 rintro a u3 ⟨hA, h6, h7, h8, h9, hT3⟩
 have hL3:= hL2.still hT3
 have hS3 : ScAt u3 (.slice (some ad) ps.length cap) ps:= hS2.below hlt hT3.old
 refine LSc.c_seq (x:= cL (cR (cR mIn1))) (y:= cR (cR (cR mIn1))) ?_
 refine LSc.norm (fun a' u' => Mb a' wb (.slice (some ad) ps.length cap) /\ tm a' 6 = .int .i64 i /\ tm a' 7 = .bool true /\ tm a' 8 = .string g0 /\ tm a' 9 = .bool (khas key now).isSome /\ tm a' 10 = .string g0 /\ tm a' 11 = .int .i64 (if (khas key now).isSome then 0 else 7) /\ Tn base (fun _ => False) (fun _ => False) u3 u') (X.fit (by kernel_rfl))
   (fun t => Code.wp_mono ?_ (mp_9 (u:= World.on u3 t) (x:= g0) (e0:= if (khas key now).isSome then 0 else 7) hA h6 h7 h8 h9 hi (by omega) hL3.lw.cells.1 (cell2 u3 hS3) hkey fun w1 hB1 => ?_)) (fun a' u' t ⟨h1, h2, h3, h4, h5, h6, h7, h8⟩ => ⟨h1, h2, h3, h4, h5, h6, h7, h8.on t⟩) ?_
 . rintro e a' w' h
   cases e <;> first | exact h.elim | skip
   obtain ⟨h1, h2, h3, h4, h5, h6, h7, h8⟩:= h
   exact ⟨h1, h2, h3, h4, h5, h6, h7, (Tn.below h8 hL3.bound).on' _⟩
 . have hT1 : Tn base (fun _ => False) (fun _ => False) u3 w1:= (Tn.below hB1 hL3.bound).on' _
   have:= getL (hL3.still hT1) hkm
   rw [hgt.2] at this
   exact this
 rintro a u4 ⟨hA, h6, h7, h8, h9, h10, h11, hT4⟩
 refine LSc.norm (fun a' u' => Mb a' wb (.slice (some ad) ps.length cap) /\ tm a' 6 = .int .i64 i /\ Tn base (fun _ => False) (fun _ => False) u4 u') (X.fit (by kernel_rfl))
   (fun t => Code.wp_mono ?_ (mp_10 (u:= World.on u4 t) hA h6 h7 h8 h9 h10 h11)) (fun a' u' t ⟨h1, h2, h3⟩ => ⟨h1, h2, h3.on t⟩) ?_
 . rintro e a' w' h
   cases e <;> first | exact h.elim | skip
   obtain ⟨h1, h2, rfl⟩:= h
   exact ⟨h1, h2, tn_on u4 t⟩
 rintro a u5 ⟨hA, h6, hT5⟩
 exact K a u5 hA h6 ⟨(((hold.trans hold2).trans (show Old base u2 u3 from hT3.old)).trans (show Old base u3 u4 from hT4.old)).trans (show Old base u4 u5 from hT5.old), wd, _, _, _, _, _, _, _, _, _, _, _, _, _, _, _, _, hpos, ((hL3.still hT4).still hT5)⟩
end
end Go.Proofs.YtddcbeeldjjmeaaGreat
