/- MAPPED, whole: its loops. -/
import Derived.Test.YtddcbeeldjjmeaaGreatPart39
namespace Go.Proofs.YtddcbeeldjjmeaaGreat
open Go Go.Conc Go.RowKit Go.Nest Go.Tm Go.Proofs.YtddcbeeldjjmeaaGreat.Tw Go.Maps Go.Sort Go.Shelf Go.Eq
set_option linter.unusedVariables false
set_option linter.unusedSimpArgs false
section
variable [Env] [Runs] {Orc : Oracle} {Stop : Frame -> World -> Prop}
set_option maxRecDepth 20000 in
set_option maxHeartbeats 1000000 in
theorem mp_loop1 (X : Setup Tryz.prog fnsM outsM orcsM) (hO : Answers Orc) {base : Nat} {u0 : World} {wb s : Nat} {sv : Value} {ps : List (Int × Int × Int)} {k : List Item} {cs : List Frame} (hps : ps.length <= 5864062014690)
   (hI : ∀ x, x ∈ ps -> I64 x.1 /\ I64 x.2.1 /\ I64 x.2.2) (hlt : ∀ ad n c, sv = .slice (some ad) n c -> ad.block < base) (hS : ScAt u0 sv ps)
   (K : ∀ a' u' cnt', Mb a' wb sv -> Lx base u0 u' wb s cnt' -> LSc Tryz.prog Orc Stop (Conc.G (bMp.at a' k) cs) u') :
   ∀ (d i : Nat) (a : Act) (u : World) (cnt : Nat), ps.length - i = d -> i <= ps.length -> Mb a wb sv -> tm a 6 = .int .i64 i -> Lx base u0 u wb s cnt -> cnt + d <= 5864062014700 ->
     LSc Tryz.prog Orc Stop (Conc.G (bMp.at a (.code mBd1 :: .inLoop mBd1 :: .inBlock 0 :: k)) cs) u:= by
 intro d
 induction d with
 | zero =>
   intro i a u cnt hd hi hA h6 hL hc
   obtain ⟨p, cap, hsv, _⟩:= id hS
   subst hsv
   refine LSc.c_seq (x:= cL mBd1) (y:= cR mBd1) ?_
   refine LSc.c_seq (x:= cL (cL mBd1)) (y:= cR (cL mBd1)) ?_
   refine LSc.norm (fun a' u' => Mb a' wb (.slice p ps.length cap) /\ tm a' 6 = .int .i64 i /\ tm a' 27 = .bool (decide (i < ps.length)) /\ ∃ t, u' = World.on u t) (X.fit (by kernel_rfl))
     (fun t => Code.wp_mono ?_ (mp_5 (u:= World.on u t) hA h6)) (fun a' u' t ⟨h1, h2, h3, t', e⟩ => ⟨h1, h2, h3, t, by rw [e]; rfl⟩) ?_
   . rintro e a' w' h
     cases e <;> first | exact h.elim | skip
     obtain ⟨h1, h2, h3, rfl⟩:= h
     exact ⟨h1, h2, h3, t, rfl⟩
   rintro a u1 ⟨hA, h6, h27, t1, rfl⟩
   refine LSc.c_cond (x:= .skip) (y:= .exit 0) false (by rw [tm_eval, h27, decide_eq_false (by omega)]) ?_
   refine LSc.c_exit (k':= k) rfl ?_
   obtain ⟨hold, wd, now, all, roots, gn, bb, cb, vb, F, G, B, t, vnow, vall, vroots, vgone, xs, hpos, hLw⟩:= hL
   exact K a _ cnt hA ⟨hold, wd, _, _, _, _, _, _, _, _, _, _, _, _, _, _, _, _, hpos, hLw.still (tn_on u t1)⟩
 | succ d ih =>
   intro i a u cnt hd hi hA h6 hL hc
   obtain ⟨p, cap, hsv, _⟩:= id hS
   refine LSc.c_seq (x:= cL mBd1) (y:= cR mBd1) ?_
   refine LSc.c_seq (x:= cL (cL mBd1)) (y:= cR (cL mBd1)) ?_
   refine LSc.norm (fun a' u' => Mb a' wb sv /\ tm a' 6 = .int .i64 i /\ tm a' 27 = .bool (decide (i < ps.length)) /\ ∃ t, u' = World.on u t) (X.fit (by kernel_rfl))
     (fun t => Code.wp_mono ?_ (mp_5 (u:= World.on u t) (n:= ps.length) (cap:= cap) (p:= p) (by rw [<- hsv]; exact hA) h6)) (fun a' u' t ⟨h1, h2, h3, t', e⟩ => ⟨h1, h2, h3, t, by rw [e]; rfl⟩) ?_
   . rintro e a' w' h
     cases e <;> first | exact h.elim | skip
     obtain ⟨h1, h2, h3, rfl⟩:= h
     exact ⟨by rw [hsv]; exact h1, h2, h3, t, rfl⟩
   rintro a u1 ⟨hA, h6, h27, t1, rfl⟩
   refine LSc.c_cond (x:= .skip) (y:= .exit 0) true (by rw [tm_eval, h27, decide_eq_true (by omega)]) ?_
   refine LSc.c_skip ?_
   refine LSc.c_seq (x:= cL (cR mBd1)) (y:= cR (cR mBd1)) ?_
   refine LSc.c_block (c:= mIn1) ?_
   have hL1 : Lx base u0 (World.on u t1) wb s cnt:= by
     obtain ⟨hold, wd, now, all, roots, gn, bb, cb, vb, F, G, B, t, vnow, vall, vroots, vgone, xs, hpos, hLw⟩:= hL
     exact ⟨hold, wd, _, _, _, _, _, _, _, _, _, _, _, _, _, _, _, _, hpos, hLw.still (tn_on u t1)⟩
   refine mp_round X hO (i:= i) (ps:= ps) hA h6 (by omega) hps (by omega) hI hlt hS hL1 fun a2 u2 hA2 h62 hL2 => ?_
   refine LSc.c_inBlock ?_
   refine LSc.norm (fun a' u' => Mb a' wb sv /\ tm a' 6 = .int .i64 ((i + 1 : Nat) : Int) /\ ∃ t, u' = World.on u2 t) (X.fit (by kernel_rfl))
     (fun t => Code.wp_mono ?_ (mp_6 (u:= World.on u2 t) hA2 h62 (by omega))) (fun a' u' t ⟨h1, h2, t', e⟩ => ⟨h1, h2, t, by rw [e]; rfl⟩) ?_
   . rintro e a' w' h
     cases e <;> first | exact h.elim | skip
     obtain ⟨h1, h2, rfl⟩:= h
     exact ⟨h1, h2, t, rfl⟩
   rintro a3 u3 ⟨hA3, h63, t3, rfl⟩
   refine LSc.c_inLoop ?_
   have hL3 : Lx base u0 (World.on u2 t3) wb s (cnt + 1):= by
     obtain ⟨hold, wd, now, all, roots, gn, bb, cb, vb, F, G, B, t, vnow, vall, vroots, vgone, xs, hpos, hLw⟩:= hL2
     exact ⟨hold, wd, _, _, _, _, _, _, _, _, _, _, _, _, _, _, _, _, hpos, hLw.still (tn_on u2 t3)⟩
   exact ih (i + 1) a3 _ (cnt + 1) (by omega) (by omega) hA3 h63 hL3 (by omega)
section
variable {base : Nat} {u : World} {wd cnt : Nat} {now : KV} {all : List KV} {roots : List Int} {gn : List Bool} {wb s bb cb vb : Nat} {F G : Lit -> Option Value} {B : KV} {t : Go.Tm.T ByteArray} {vnow vall vroots vgone : Value} {xs : List Value}
omit [Env] [Runs] in
theorem same_root (hL : Lw base u wd cnt now all roots gn wb s bb cb vb F G B t vnow vall vroots vgone xs) {i k : Nat} (hi : i < all.length) (hk : k < all.length) {r q : Int} (hr : roots[i]? = some r) (hq : roots[k]? = some q) (e : all[i] = all[k]) : r = q:= by
 obtain ⟨t1, h1, e1⟩:= hL.rts i hi
 obtain ⟨t2, h2, e2⟩:= hL.rts k hk
 rw [hr] at e1; rw [hq] at e2
 cases e1; cases e2
 rw [e] at h1
 rw [rep_unique h1 h2]
end
end
section
variable [Env] [Runs] {Orc : Oracle} {Stop : Frame -> World -> Prop}
variable {base : Nat} {u : World} {wd cnt : Nat} {now : KV} {all : List KV} {roots : List Int} {gn : List Bool} {wb s bb cb vb : Nat} {F G : Lit -> Option Value} {B : KV} {t : Go.Tm.T ByteArray} {vnow vall vroots vgone : Value} {xs : List Value}
set_option maxRecDepth 20000 in
set_option maxHeartbeats 1000000 in
theorem mp_loop4 (X : Setup Tryz.prog fnsM outsM orcsM) (hL : Lw base u wd cnt now all roots gn wb s bb cb vb F G B t vnow vall vroots vgone xs) {i : Nat} (hi : i < all.length) {K0 : List Item} {cs : List Frame}
   (K : ∀ a' u', Mc a' wb i -> Tn base (fun _ => False) (fun _ => False) u u' -> LSc Tryz.prog Orc Stop (Conc.G (bMp.at a' K0) cs) u') :
   ∀ (d k : Nat) (a : Act) (u1 : World), i - k = d -> k <= i -> Md a wb i k -> Tn base (fun _ => False) (fun _ => False) u u1 ->
     LSc Tryz.prog Orc Stop (Conc.G (bMp.at a (.code mBd4 :: .inLoop mBd4 :: .inBlock 4 :: K0)) cs) u1:= by
 intro d
 induction d with
 | zero =>
   intro k a u1 hd hk hA hT
   refine LSc.c_seq (x:= cL mBd4) (y:= cR mBd4) ?_
   refine LSc.c_seq (x:= cL (cL mBd4)) (y:= cR (cL mBd4)) ?_
   refine LSc.norm (fun a' u' => Md a' wb i k /\ tm a' 160 = .bool (decide (k < i)) /\ Tn base (fun _ => False) (fun _ => False) u u') (X.fit (by kernel_rfl))
     (fun t => Code.wp_mono ?_ (mp_24 (u:= World.on u1 t) hA)) (fun a' u' t ⟨h1, h2, h3⟩ => ⟨h1, h2, h3.on t⟩) ?_
   . rintro e a' w' h
     cases e <;> first | exact h.elim | skip
     obtain ⟨h1, h2, rfl⟩:= h
     exact ⟨h1, h2, hT.on t⟩
   rintro a u2 ⟨hA, h160, hT2⟩
   refine LSc.c_cond (x:= .skip) (y:= .exit 4) false (by rw [tm_eval, h160, decide_eq_false (by omega)]) ?_
   refine LSc.c_exit (k':= K0) rfl ?_
   exact K a u2 hA.mc hT2
 | succ d ih =>
   intro k a u1 hd hk hA hT
   have hcn:= hL.count
   refine LSc.c_seq (x:= cL mBd4) (y:= cR mBd4) ?_
   refine LSc.c_seq (x:= cL (cL mBd4)) (y:= cR (cL mBd4)) ?_
   refine LSc.norm (fun a' u' => Md a' wb i k /\ tm a' 160 = .bool (decide (k < i)) /\ Tn base (fun _ => False) (fun _ => False) u u') (X.fit (by kernel_rfl))
     (fun t => Code.wp_mono ?_ (mp_24 (u:= World.on u1 t) hA)) (fun a' u' t ⟨h1, h2, h3⟩ => ⟨h1, h2, h3.on t⟩) ?_
   . rintro e a' w' h
     cases e <;> first | exact h.elim | skip
     obtain ⟨h1, h2, rfl⟩:= h
     exact ⟨h1, h2, hT.on t⟩
   rintro a u2 ⟨hA, h160, hT2⟩
   refine LSc.c_cond (x:= .skip) (y:= .exit 4) true (by rw [tm_eval, h160, decide_eq_true (by omega)]) ?_
   refine LSc.c_skip ?_
   refine LSc.c_seq (x:= cL (cR mBd4)) (y:= cR (cR mBd4)) ?_
   refine LSc.c_block (c:= mIn4) ?_
   have hL2:= hL.still hT2
   have hki : k < all.length:= by omega
   obtain ⟨g, cap, x, hva, _, hx, hcx, _⟩:= row_get hL2.rall hi
   obtain ⟨g', cap', y, hva', _, hy, hcy, _⟩:= row_get hL2.rall hki
   rw [hva] at hva'
   cases hva'
   obtain ⟨x', hx1, hOx⟩:= hL2.rx i hi
   obtain ⟨y', hy1, hOy⟩:= hL2.rx k hki
   have ex : x = x':= by rw [hx1] at hx; exact (Option.some.inj hx).symm
   have ey : y = y':= by rw [hy1] at hy; exact (Option.some.inj hy).symm
   subst ex
   subst ey
   have c3:= hL2.lw.cells.2.2.2.1
   rw [hva] at c3
   have hxs : ∃ p q c, x = .slice p q c:= by obtain ⟨p, c, e⟩:= row_form hOx; exact ⟨p, _, c, e⟩
   have hys : ∃ p q c, y = .slice p q c:= by obtain ⟨p, c, e⟩:= row_form hOy; exact ⟨p, _, c, e⟩
   have hsame : ∀ w, OwnP base w x all[i].prs -> OwnP base w y all[k].prs -> Calls Tryz.prog 11 #[x, y] w fun e w' => e = .returned (.bool (decide (all[i] = all[k]))) /\ ∃ n, w' = w.drewN n:= fun w h1 h2 => by
     have:= same_any h1.row h2.row (by rw [prs_length]; have:= (hL2.vers i hi); obtain ⟨_, _, _, _, hr, _⟩:= this; have:= hr.len; omega)
     rw [show decide (all[i].prs = all[k].prs) = decide (all[i] = all[k]) from by rw [decide_eq_decide]; exact ⟨prs_inj, fun e => by rw [e]⟩] at this
     exact this
   refine LSc.c_seq (x:= cL mIn4) (y:= cR mIn4) ?_
   refine LSc.norm (fun a' u' => Md a' wb i k /\ tm a' 19 = .bool (decide (all[i] = all[k])) /\ Tn base (fun _ => False) (fun _ => False) u u') (X.fit (by kernel_rfl))
     (fun t => Code.wp_mono ?_ (mp_26 (u:= World.on u2 t) hA hi hki (by omega) c3 hcx hcy hxs hys (hsame _ (OwnP.drewN hOx 1) (OwnP.drewN hOy 1)))) (fun a' u' t ⟨h1, h2, h3⟩ => ⟨h1, h2, h3.on t⟩) ?_
   . rintro e a' w' h
     cases e <;> first | exact h.elim | skip
     obtain ⟨h1, h2, n, rfl⟩:= h
     exact ⟨h1, h2, hT2.trans ((Tn.below (u:= World.on u2 t) (below_drewN _ _ n) hL2.bound).on' _)⟩
   rintro a u3 ⟨hA, h19, hT3⟩
   have hL3:= hL.still hT3
   obtain ⟨g4, cap4, r0, hvr, _, hr0, hcr, _⟩:= row_get hL3.rroots hi
   obtain ⟨g4', cap4', q0, hvr', _, hq0, hcq, _⟩:= row_get hL3.rroots hki
   rw [hvr] at hvr'
   cases hvr'
   obtain ⟨r, gi, hri, _, _⟩:= hL3.vers i hi
   obtain ⟨q, gk, hqk, _, _⟩:= hL3.vers k hki
   have er : r0 = .int .i64 r:= by rw [List.getElem?_map, hri] at hr0; exact (Option.some.inj hr0).symm
   have eq' : q0 = .int .i64 q:= by rw [List.getElem?_map, hqk] at hq0; exact (Option.some.inj hq0).symm
   subst er
   subst eq'
   have c4:= hL3.lw.cells.2.2.2.2.1
   rw [hvr] at c4
   refine LSc.c_seq (x:= cL (cR mIn4)) (y:= cR (cR mIn4)) ?_
   refine LSc.norm (fun a' u' => Md a' wb i k /\ tm a' 195 = .bool false /\ Tn base (fun _ => False) (fun _ => False) u u') (X.fit (by kernel_rfl))
     (fun t => Code.wp_mono ?_ (mp_27 (u:= World.on u3 t) hA h19 hi hki (by omega) c4 hcr hcq fun hb => same_root hL3 hi hki hri hqk (of_decide_eq_true hb))) (fun a' u' t ⟨h1, h2, h3⟩ => ⟨h1, h2, h3.on t⟩) ?_
   . rintro e a' w' h
     cases e <;> first | exact h.elim | skip
     obtain ⟨h1, h2, n, rfl⟩:= h
     exact ⟨h1, h2, hT3.trans ((Tn.below (u:= World.on u3 t) (below_drewN _ _ n) hL3.bound).on' _)⟩
   rintro a u4 ⟨hA, h195, hT4⟩
   refine LSc.c_cond (x:= cT (cR (cR mIn4))) (y:= .skip) false (by rw [tm_eval]; exact h195) ?_
   refine LSc.c_skip ?_
   refine LSc.c_inBlock ?_
   refine LSc.norm (fun a' u' => Md a' wb i (k + 1) /\ Tn base (fun _ => False) (fun _ => False) u u') (X.fit (by kernel_rfl))
     (fun t => Code.wp_mono ?_ (mp_25 (u:= World.on u4 t) hA (by omega))) (fun a' u' t ⟨h1, h3⟩ => ⟨h1, h3.on t⟩) ?_
   . rintro e a' w' h
     cases e <;> first | exact h.elim | skip
     obtain ⟨h1, rfl⟩:= h
     exact ⟨h1, hT4.on t⟩
   rintro a u5 ⟨hA, hT5⟩
   refine LSc.c_inLoop ?_
   exact ih (k + 1) a u5 (by omega) (by omega) hA hT5
end
section
variable [Env] [Runs] {Orc : Oracle} {Stop : Frame -> World -> Prop}
section
variable {base : Nat} {u : World} {wd cnt : Nat} {now : KV} {all : List KV} {roots : List Int} {gn : List Bool} {wb s bb cb vb : Nat} {F G : Lit -> Option Value} {B : KV} {t : Go.Tm.T ByteArray} {vnow vall vroots vgone : Value} {xs : List Value}
set_option maxRecDepth 20000 in
set_option maxHeartbeats 1000000 in
theorem mp_loop2 (X : Setup Tryz.prog fnsM outsM orcsM) (hL : Lw base u wd cnt now all roots gn wb s bb cb vb F G B t vnow vall vroots vgone xs) {K0 : List Item} {cs : List Frame}
   (K : ∀ a' u' i, Mc a' wb i -> Tn base (fun _ => False) (fun _ => False) u u' -> LSc Tryz.prog Orc Stop (Conc.G (bMp.at a' K0) cs) u') :
   ∀ (d i : Nat) (a : Act) (u1 : World), all.length - i = d -> i <= all.length -> Mc a wb i -> Tn base (fun _ => False) (fun _ => False) u u1 ->
     LSc Tryz.prog Orc Stop (Conc.G (bMp.at a (.code mBd2 :: .inLoop mBd2 :: .inBlock 2 :: K0)) cs) u1:= by
 intro d
 induction d with
 | zero =>
   intro i a u1 hd hk hA hT
   have hL1:= hL.still hT
   obtain ⟨ap, ac, hva⟩:= row_form hL1.rall
   have c3:= hL1.lw.cells.2.2.2.1
   rw [hva] at c3
   refine LSc.c_seq (x:= cL mBd2) (y:= cR mBd2) ?_
   refine LSc.c_seq (x:= cL (cL mBd2)) (y:= cR (cL mBd2)) ?_
   refine LSc.norm (fun a' u' => Mc a' wb i /\ tm a' 83 = .bool (decide (i < all.length)) /\ Tn base (fun _ => False) (fun _ => False) u u') (X.fit (by kernel_rfl))
     (fun t => Code.wp_mono ?_ (mp_13 (u:= World.on u1 t) hA c3)) (fun a' u' t ⟨h1, h2, h3⟩ => ⟨h1, h2, h3.on t⟩) ?_
   . rintro e a' w' h
     cases e <;> first | exact h.elim | skip
     obtain ⟨h1, h2, rfl⟩:= h
     exact ⟨h1, h2, hT.on t⟩
   rintro a u2 ⟨hA, h83, hT2⟩
   refine LSc.c_cond (x:= .skip) (y:= .exit 2) false (by rw [tm_eval, h83, decide_eq_false (by omega)]) ?_
   refine LSc.c_exit (k':= K0) rfl ?_
   exact K a u2 i hA hT2
 | succ d ih =>
   intro i a u1 hd hk hA hT
   have hcn:= hL.count
   have hi : i < all.length:= by omega
   have hL1:= hL.still hT
   obtain ⟨ap, ac, hva1⟩:= row_form hL1.rall
   have c3:= hL1.lw.cells.2.2.2.1
   rw [hva1] at c3
   refine LSc.c_seq (x:= cL mBd2) (y:= cR mBd2) ?_
   refine LSc.c_seq (x:= cL (cL mBd2)) (y:= cR (cL mBd2)) ?_
   refine LSc.norm (fun a' u' => Mc a' wb i /\ tm a' 83 = .bool (decide (i < all.length)) /\ Tn base (fun _ => False) (fun _ => False) u u') (X.fit (by kernel_rfl))
     (fun t => Code.wp_mono ?_ (mp_13 (u:= World.on u1 t) hA c3)) (fun a' u' t ⟨h1, h2, h3⟩ => ⟨h1, h2, h3.on t⟩) ?_
   . rintro e a' w' h
     cases e <;> first | exact h.elim | skip
     obtain ⟨h1, h2, rfl⟩:= h
     exact ⟨h1, h2, hT.on t⟩
   rintro a u2 ⟨hA, h83, hT2⟩
   refine LSc.c_cond (x:= .skip) (y:= .exit 2) true (by rw [tm_eval, h83, decide_eq_true hi]) ?_
   refine LSc.c_skip ?_
   refine LSc.c_seq (x:= cL (cR mBd2)) (y:= cR (cR mBd2)) ?_
   refine LSc.c_block (c:= mIn2) ?_
   -- behind the round
   have tail : ∀ a' u', Mc a' wb i -> Tn base (fun _ => False) (fun _ => False) u u' -> LSc Tryz.prog Orc Stop (Conc.G (bMp.at a' (.code (cR (cR mBd2)) :: .inLoop mBd2 :: .inBlock 2 :: K0)) cs) u':= by
     intro a u' hA hT'
     refine LSc.norm (fun a' u' => Mc a' wb (i + 1) /\ Tn base (fun _ => False) (fun _ => False) u u') (X.fit (by kernel_rfl))
       (fun t => Code.wp_mono ?_ (mp_14 (u:= World.on u' t) hA (by omega))) (fun a' u' t ⟨h1, h3⟩ => ⟨h1, h3.on t⟩) ?_
     . rintro e a' w' h
       cases e <;> first | exact h.elim | skip
       obtain ⟨h1, rfl⟩:= h
       exact ⟨h1, hT'.on t⟩
     rintro a u5 ⟨hA, hT5⟩
     refine LSc.c_inLoop ?_
     exact ih (i + 1) a u5 (by omega) (by omega) hA hT5
   clear ih
   have hL2:= hL.still hT2
   obtain ⟨r, g, hri, hgi, hver⟩:= hL2.vers i hi
   refine LSc.c_seq (x:= cL mIn2) (y:= cR mIn2) ?_
   refine LSc.norm (fun a' u' => Mc a' wb i /\ tm a' 14 = .int .i64 (if g then 9 else 0) /\ (∃ vl, tm a' 13 = vl /\ OwnP base u' vl (if g then [] else all[i].prs)) /\ Tn base (fun _ => False) (fun _ => False) u u') (X.fit (by kernel_rfl))
     (fun t => Code.wp_mono ?_ (mp_15 (u:= World.on u2 t) (base:= base) hA (by omega) hL2.lw.cells.1 (walkL (hL2.still (tn_on u2 t)) hi hgi))) (fun a' u' t ⟨h1, h2, h3, h4⟩ => ⟨h1, h2, h3, h4.on t⟩) ?_
   . rintro e a' w' h
     cases e <;> first | exact h.elim | skip
     obtain ⟨h1, h2, vl, h3, h4, h5⟩:= h
     exact ⟨h1, h2, ⟨vl, h3, ownsRow_base h4 hL2.bound⟩, hT2.trans ((Tn.below h5 hL2.bound).on' _)⟩
   rintro a u3 ⟨hA, h14, ⟨vl, h13, hOv⟩, hT3⟩
   have hL3:= hL.still hT3
   refine LSc.c_seq (x:= cL (cR mIn2)) (y:= cR (cR mIn2)) ?_
   refine LSc.norm (fun a' u' => Mc a' wb i /\ tm a' 13 = vl /\ tm a' 14 = .int .i64 (if g then 9 else 0) /\ tm a' 15 = .int .i64 (if g then 0 else r) /\ tm a' 16 = .int .i64 (if g then 9 else 0) /\ ∃ t, u' = World.on u3 t) (X.fit (by kernel_rfl))
     (fun t => Code.wp_mono ?_ (mp_16 (u:= World.on u3 t) hA h14 h13 (by omega) hL3.lw.cells.1 (rootL (hL3.still (tn_on u3 t)) hi hri hgi))) (fun a' u' t ⟨h1, h2, h3, h4, h5, t', e⟩ => ⟨h1, h2, h3, h4, h5, t, by rw [e]; rfl⟩) ?_
   . rintro e a' w' h
     cases e <;> first | exact h.elim | skip
     obtain ⟨h1, h2, h3, h4, h5, rfl⟩:= h
     exact ⟨h1, h2, h3, h4, h5, t, rfl⟩
   rintro a u4 ⟨hA, h13, h14, h15, h16, t4, rfl⟩
   have hT4:= hT3.on t4
   have hL4:= hL.still hT4
   have hgl : (gn.map Value.bool)[i]? = some (.bool g):= by rw [List.getElem?_map, hgi]; rfl
   obtain ⟨gb, gc, x0, hvg, _, hx0, hcx, _⟩:= row_get hL4.rgone hi
   rw [hgl] at hx0
   cases hx0
   have c5:= hL4.lw.cells.2.2.2.2.2
   rw [hvg] at c5
   refine LSc.c_seq (x:= cL (cR (cR mIn2))) (y:= cR (cR (cR mIn2))) ?_
   refine LSc.c_seq (x:= cL (cL (cR (cR mIn2)))) (y:= cR (cL (cR (cR mIn2)))) ?_
   refine LSc.norm (fun a' u' => Mc a' wb i /\ tm a' 13 = vl /\ tm a' 14 = .int .i64 (if g then 9 else 0) /\ tm a' 15 = .int .i64 (if g then 0 else r) /\ tm a' 16 = .int .i64 (if g then 9 else 0) /\ tm a' 112 = .bool g /\ ∃ t, u' = World.on u3 t) (X.fit (by kernel_rfl))
     (fun t => Code.wp_mono ?_ (mp_17 (u:= World.on (World.on u3 t4) t) hA h13 h14 h15 h16 hi (by omega) c5 hcx)) (fun a' u' t ⟨h1, h2, h3, h4, h5, h6, t', e⟩ => ⟨h1, h2, h3, h4, h5, h6, t, by rw [e]; rfl⟩) ?_
   . rintro e a' w' h
     cases e <;> first | exact h.elim | skip
     obtain ⟨h1, h2, h3, h4, h5, h6, rfl⟩:= h
     exact ⟨h1, h2, h3, h4, h5, h6, t, rfl⟩
   rintro a u5 ⟨hA, h13, h14, h15, h16, h112, t5, rfl⟩
   have hT5:= hT3.on t5
   have hL5:= hL.still hT5
   cases g with
   | true =>
     refine LSc.c_cond (x:= mGone) (y:= .skip) true (by rw [tm_eval]; exact h112) ?_
     show LSc _ _ _ (Conc.G (Frame.at _ _ (.code mGone :: _)) _) _
     refine LSc.c_seq (x:= cL mGone) (y:= .exit 3) ?_
     obtain ⟨vp, vc, hvl⟩:= row_form hOv
     have h13' : tm a 13 = .slice vp 0 vc:= by rw [h13, hvl]; rfl
     refine LSc.norm (fun a' u' => Mc a' wb i /\ Tn base (fun _ => False) (fun _ => False) u u') (X.fit (by kernel_rfl))
       (fun t => Code.wp_mono ?_ (mp_18 (u:= World.on (World.on u3 t5) t) hA h13' h14 h15 h16)) (fun a' u' t ⟨h1, h3⟩ => ⟨h1, h3.on t⟩) ?_
     . rintro e a' w' h
       cases e <;> first | exact h.elim | skip
       obtain ⟨h1, rfl⟩:= h
       exact ⟨h1, hT5.on t⟩
     rintro a u6 ⟨hA, hT6⟩
     refine LSc.c_exit (k':= .code (cR (cR mBd2)) :: .inLoop mBd2 :: .inBlock 2 :: K0) rfl ?_
     exact tail a u6 hA hT6
   | false =>
     refine LSc.c_cond (x:= mGone) (y:= .skip) false (by rw [tm_eval]; exact h112) ?_
     refine LSc.c_skip ?_
     obtain ⟨g2, cap2, x, hva, _, hx, hcx2, _⟩:= row_get hL5.rall hi
     obtain ⟨x', hx1, hOx⟩:= hL5.rx i hi
     have ex : x = x':= by rw [hx1] at hx; exact (Option.some.inj hx).symm
     subst ex
     have c35:= hL5.lw.cells.2.2.2.1
     rw [hva] at c35
     have hxs : ∃ p q c, x = .slice p q c:= by obtain ⟨p, c, e⟩:= row_form hOx; exact ⟨p, _, c, e⟩
     have hOv5 : OwnP base (World.on u3 t5) vl all[i].prs:= (tn_on (base:= base) (T:= fun _ => False) (M:= fun _ => False) u3 t5).row (fun e => e) hOv
     have hvs : ∃ p q c, vl = .slice p q c:= by obtain ⟨p, c, e⟩:= row_form hOv5; exact ⟨p, _, c, e⟩
     have hsame : ∀ tp, Calls Tryz.prog 11 #[vl, x] (World.on (World.on u3 t5) tp) fun e w' => e = .returned (.bool true) /\ ∃ n, w' = (World.on (World.on u3 t5) tp).drewN n:= fun tp => by
       have h1 : OwnP base (World.on (World.on u3 t5) tp) vl all[i].prs:= (tn_on (base:= base) (T:= fun _ => False) (M:= fun _ => False) (World.on u3 t5) tp).row (fun e => e) hOv5
       have h2 : OwnP base (World.on (World.on u3 t5) tp) x all[i].prs:= (tn_on (base:= base) (T:= fun _ => False) (M:= fun _ => False) (World.on u3 t5) tp).row (fun e => e) hOx
       have:= same_any h1.row h2.row (by rw [prs_length]; have:= hver.1.len; omega)
       rw [decide_eq_true rfl] at this
       exact this
     refine LSc.c_seq (x:= cL (cR (cR (cR mIn2)))) (y:= cR (cR (cR (cR mIn2)))) ?_
     refine LSc.norm (fun a' u' => Mc a' wb i /\ tm a' 14 = .int .i64 0 /\ tm a' 15 = .int .i64 r /\ tm a' 16 = .int .i64 0 /\ tm a' 17 = .bool true /\ Tn base (fun _ => False) (fun _ => False) u u') (X.fit (by kernel_rfl))
       (fun t => Code.wp_mono ?_ (mp_20 (u:= World.on (World.on u3 t5) t) hA h13 h14 h15 h16 hi (by omega) c35 hcx2 hvs hxs (hsame t))) (fun a' u' t ⟨h1, h2, h3, h4, h5, h6⟩ => ⟨h1, h2, h3, h4, h5, h6.on t⟩) ?_
     . rintro e a' w' h
       cases e <;> first | exact h.elim | skip
       obtain ⟨h1, h2, h3, h4, h5, n, rfl⟩:= h
       exact ⟨h1, h2, h3, h4, h5, hT5.trans ((Tn.below (u:= World.on (World.on u3 t5) t) (below_drewN _ _ n) hL5.bound).on' _)⟩
     rintro a u6 ⟨hA, h14, h15, h16, h17, hT6⟩
     have hL6:= hL.still hT6
     obtain ⟨g4, cap4, r0, hvr, _, hr0, hcr, _⟩:= row_get hL6.rroots hi
     have er : r0 = .int .i64 r:= by rw [List.getElem?_map, hri] at hr0; exact (Option.some.inj hr0).symm
     subst er
     have c4:= hL6.lw.cells.2.2.2.2.1
     rw [hvr] at c4
     refine LSc.c_seq (x:= cL (cR (cR (cR (cR mIn2))))) (y:= mEnd2) ?_
     refine LSc.norm (fun a' u' => Mc a' wb i /\ Tn base (fun _ => False) (fun _ => False) u u') (X.fit (by kernel_rfl))
       (fun t => Code.wp_mono ?_ (mp_21 (u:= World.on u6 t) hA h14 h15 h16 h17 hi (by omega) c4 hcr)) (fun a' u' t ⟨h1, h3⟩ => ⟨h1, h3.on t⟩) ?_
     . rintro e a' w' h
       cases e <;> first | exact h.elim | skip
       obtain ⟨h1, rfl⟩:= h
       exact ⟨h1, hT6.on t⟩
     rintro a u7 ⟨hA, hT7⟩
     refine LSc.c_seq (x:= cL mEnd2) (y:= cR mEnd2) ?_
     refine LSc.norm (fun a' u' => Md a' wb i 0 /\ Tn base (fun _ => False) (fun _ => False) u u') (X.fit (by kernel_rfl))
       (fun t => Code.wp_mono ?_ (mp_23 (u:= World.on u7 t) hA)) (fun a' u' t ⟨h1, h3⟩ => ⟨h1, h3.on t⟩) ?_
     . rintro e a' w' h
       cases e <;> first | exact h.elim | skip
       obtain ⟨h1, rfl⟩:= h
       exact ⟨h1, hT7.on t⟩
     rintro a u8 ⟨hA, hT8⟩
     refine LSc.c_block (c:= cB (cR mEnd2)) ?_
     refine LSc.c_loop (c:= mBd4) ?_
     exact mp_loop4 X hL hi (fun a' u' h1 h2 => LSc.c_inBlock (tail a' u' h1 h2)) (i - 0) 0 a u8 rfl (Nat.zero_le _) hA hT8
end
def StopM (base : Nat) (u0 : World) (f : Frame) (u : World) : Prop:= ∃ (a : Act) (k : List Item), f = { bMp.at a k with mode:= .returning } /\ a.defers = [] /\ a.tmps.size = 196 /\ tm a 4 = .bool true /\ Old base u0 u
set_option maxRecDepth 20000 in
set_option maxHeartbeats 1000000 in
theorem mapped_runs (X : Setup Tryz.prog fnsM outsM orcsM) (hO : Answers Orc) {u : World} {c0 : Int} {sv : Value} {ps : List (Int × Int × Int)} (hc : I64 c0) (hps : ps.length <= 5864062014690) (hI : ∀ x, x ∈ ps -> I64 x.1 /\ I64 x.2.1 /\ I64 x.2.2) (hlt : ∀ ad n c, sv = .slice (some ad) n c -> ad.block < u.heap.size) (hS : ScAt u sv ps) :
   LSc Tryz.prog Orc (StopM u.heap.size u) (live (Frame.enter Tryz.prog 3 #[.int .i64 c0, sv] .normal) []) u:= by
 rw [enter_at _ Tryz.func3 (show Tryz.f3.body = some mpC from rfl)]
 generalize ha : ({ tmps:= #[Value.int .i64 c0, sv] ++ Array.replicate (Tryz.f3.ntmps - #[Value.int .i64 c0, sv].size) undef, defers:= [] } : Act) = a
 have hA : Ma a:= ⟨by rw [<- ha]; simp [Tryz.ntmps3], by rw [<- ha]⟩
 have h0 : tm a 0 = .int .i64 c0:= by rw [<- ha]; simp [tm]
 have h1 : tm a 1 = sv:= by rw [<- ha]; simp [tm]
 clear ha
 show LSc _ _ _ (Conc.G (bMp.at a [.code mpC]) []) u
 refine LSc.c_seq (x:= cL mpC) (y:= cR mpC) ?_
 refine LSc.norm (fun a' u' => Ma a' /\ tm a' 0 = .int .i64 c0 /\ tm a' 1 = sv /\ ∃ t, u' = World.on u t) (X.fit (by kernel_rfl)) (fun t => Code.wp_mono ?_ (mp_0 (u:= World.on u t) hA h0 h1)) (fun a' u' t ⟨h1, h2, h3, t', e⟩ => ⟨h1, h2, h3, t, by rw [e]; rfl⟩) ?_
 . rintro e a' w' h
   cases e <;> first | exact h.elim | skip
   obtain ⟨h1, h2, h3, rfl⟩:= h
   exact ⟨h1, h2, h3, t, rfl⟩
 rintro a u1 ⟨hA, h0, h1, t1, rfl⟩
 have hsz:= hA.size
 refine LSc.c_seq (x:= cL (cR mpC)) (y:= cR (cR mpC)) ?_
 refine LSc.c_region (ops:= opsOf (cL (cR mpC))) ?_
 show LSc _ _ _ (Conc.G (Frame.at _ _ (.inRegion _ [0, 1, 2] :: _)) _) _
 refine LSc.mv 20 (.int .i64 c0) (.tmp 0) rfl (X.free (by rfl)) rfl rfl rfl (.inl rfl) (by rw [tm_eval]; exact h0) ?_
 refine LSc.enterAt (f:= 4) (args:= #[.tmp 20]) (vs:= #[.int .i64 c0]) rfl rfl rfl rfl Tryz.func4 (by rfl) rfl (by intro x hx; simp at hx; subst hx; trivial)
   (by simp [tm_eval, tm_eq, tm_ne, Eq.size_put, hsz]) ((X.runs _).2 (.inr (by decide))) ?_
 refine begun_runs X hO (u:= World.on u t1) (base:= u.heap.size) hc (Nat.le_refl _) _ _ (fun v ch e => by rw [Frame.finish_at] at e; cases e) ?_
 rintro x u2 ⟨wb, wd, now, all, roots, gn, s, bb, cb, vb, F, G, B, t, vnow, vall, vroots, vgone, xs, rfl, hold, hpos, hL⟩
 rw [Frame.finish_at]
 show LSc _ _ _ (Conc.G (Frame.at _ (Act.put _ (some 21) _) (.inRegion _ [2] :: _)) _) _
 refine LSc.mv 5 (.pointer (some ⟨wb, 0, none⟩)) (.tmp 21) rfl (X.free (by rfl)) rfl rfl rfl (.inr rfl) (by rw [tm_eval, tm_eq (by simp [Eq.size_put, hsz])]) ?_
 refine LSc.c_rend ?_
 generalize hact : Act.put (Act.put _ _ _) (some 5) _ = a2
 have hA2 : Mb a2 wb sv:= by
   rw [<- hact]
   exact ⟨((hA.put _ _).put _ _).put _ _, by simp [tm_ne, h1], by rw [tm_eq (by simp [Eq.size_put, hsz])]⟩
 clear hact hA h0 h1 hsz
 have hLx : Lx u.heap.size u u2 wb s 3:= ⟨hold, wd, _, _, _, _, _, _, _, _, _, _, _, _, _, _, _, _, hpos, hL⟩
 clear hL hold hpos
 have stay : ∀ {u' : World} {cnt : Nat} (tp : Nat -> Question -> Nat), Lx u.heap.size u u' wb s cnt -> Lx u.heap.size u (World.on u' tp) wb s cnt:= fun tp ⟨h1, wd, now, all, roots, gn, bb, cb, vb, F, G, B, t, vnow, vall, vroots, vgone, xs, h2, h3⟩ =>
   ⟨h1, wd, _, _, _, _, _, _, _, _, _, _, _, _, _, _, _, _, h2, h3.still (tn_on _ tp)⟩
 refine LSc.c_seq (x:= cL (cR (cR mpC))) (y:= cR (cR (cR mpC))) ?_
 refine LSc.norm (fun a' u' => Mb a' wb sv /\ ∃ t, u' = World.on u2 t) (X.fit (by kernel_rfl)) (fun t => Code.wp_mono ?_ (mp_2 (u:= World.on u2 t) hA2)) (fun a' u' t ⟨h1, t', e⟩ => ⟨h1, t, by rw [e]; rfl⟩) ?_
 . rintro e a' w' h
   cases e <;> first | exact h.elim | skip
   obtain ⟨h1, rfl⟩:= h
   exact ⟨h1, t, rfl⟩
 rintro a u3 ⟨hA, t3, rfl⟩
 refine LSc.c_seq (x:= mL1) (y:= cR (cR (cR (cR mpC)))) ?_
 refine LSc.c_seq (x:= cL mL1) (y:= cR mL1) ?_
 refine LSc.norm (fun a' u' => Mb a' wb sv /\ tm a' 6 = .int .i64 0 /\ ∃ t, u' = World.on u2 t) (X.fit (by kernel_rfl)) (fun t => Code.wp_mono ?_ (mp_4 (u:= World.on (World.on u2 t3) t) hA)) (fun a' u' t ⟨h1, h2, t', e⟩ => ⟨h1, h2, t, by rw [e]; rfl⟩) ?_
 . rintro e a' w' h
   cases e <;> first | exact h.elim | skip
   obtain ⟨h1, h2, rfl⟩:= h
   exact ⟨h1, h2, t, rfl⟩
 rintro a u4 ⟨hA, h6, t4, rfl⟩
 refine LSc.c_block (c:= cB (cR mL1)) ?_
 refine LSc.c_loop (c:= mBd1) ?_
 refine mp_loop1 X hO hps hI hlt hS (fun a5 u5 cnt5 hA5 hL5 => ?_) ps.length 0 a _ 3 (by omega) (Nat.zero_le _) hA h6 (stay t4 hLx) (by omega)
 obtain ⟨hold, wd, now, all, roots, gn, bb, cb, vb, F, G, B, t, vnow, vall, vroots, vgone, xs, hpos, hL⟩:= hL5
 refine LSc.c_seq (x:= mL2) (y:= cR (cR (cR (cR (cR mpC))))) ?_
 refine LSc.c_seq (x:= cL mL2) (y:= cR mL2) ?_
 refine LSc.norm (fun a' u' => Mc a' wb 0 /\ Tn u.heap.size (fun _ => False) (fun _ => False) u5 u') (X.fit (by kernel_rfl)) (fun t => Code.wp_mono ?_ (mp_12 (u:= World.on u5 t) hA5)) (fun a' u' t ⟨h1, h2⟩ => ⟨h1, h2.on t⟩) ?_
 . rintro e a' w' h
   cases e <;> first | exact h.elim | skip
   obtain ⟨h1, rfl⟩:= h
   exact ⟨h1, tn_on u5 t⟩
 rintro a u6 ⟨hA, hT6⟩
 refine LSc.c_block (c:= cB (cR mL2)) ?_
 refine LSc.c_loop (c:= mBd2) ?_
 refine mp_loop2 X hL (fun a7 u7 i7 hA7 hT7 => ?_) all.length 0 a u6 (by omega) (Nat.zero_le _) hA hT6
 refine LSc.c_seq (x:= cL (cR (cR (cR (cR (cR mpC)))))) (y:= .ret) ?_
 refine LSc.norm (fun a' u' => Ma a' /\ tm a' 4 = .bool true /\ Tn u.heap.size (fun _ => False) (fun _ => False) u5 u') (X.fit (by kernel_rfl)) (fun t => Code.wp_mono ?_ (mp_29 (u:= World.on u7 t) hA7)) (fun a' u' t ⟨h1, h2, h3⟩ => ⟨h1, h2, h3.on t⟩) ?_
 . rintro e a' w' h
   cases e <;> first | exact h.elim | skip
   obtain ⟨h1, h2, rfl⟩:= h
   exact ⟨h1, h2, hT7.on t⟩
 rintro a u8 ⟨hA, h4, hT8⟩
 refine LSc.ctl free_code calm_at (fun _ => stepG_ret') (fun ch e => by cases e) (LSc.done ⟨a, _, rfl, hA.defers, hA.size, h4, hold.trans (show Old u.heap.size u5 u8 from hT8.old)⟩)
end
end Go.Proofs.YtddcbeeldjjmeaaGreat
