/- For every integer and every row of steps the law Mapped answers true, and its arguments read afterwards as before; on every order of its goroutines. -/
import Derived.Test.YtddcbeeldjjmeaaGreatPart19
import Derived.Test.YtddcbeeldjjmeaaGreatPart14
import Derived.Test.YtddcbeeldjjmeaaGreatPart9
import Derived.LaidMore
import Derived.Deep.Strs
import Derived.OpenShut
import Derived.Test.YtddcbeeldjjmeaaGreatRows
import Derived.Conc.LeavingOf
import Derived.ProofKit
import Derived.Carry
namespace Go.Proofs.YtddcbeeldjjmeaaGreat
open Go Go.Conc Go.RowKit Go.Nest Go.Tm Go.Proofs.YtddcbeeldjjmeaaGreat.Tw Go.Maps Go.Sort Go.Shelf Go.Eq
set_option linter.unusedVariables false
set_option linter.unusedSimpArgs false
section
variable [Env] [Runs] {Orc : Oracle} {Stop : Frame -> World -> Prop}
set_option maxRecDepth 20000 in
set_option maxHeartbeats 1000000 in
theorem mp_loop1 (X : Setup Tryz.prog fnsM outsM orcsM) (hO : Answers Orc) {base : Nat} {u0 : World} {wb s : Nat} {sv : Value} {ps : List (Int × Int × Int)} {k : List Item} {cs : List Frame} (hps : ps.length <= 5864062014690)
   (hI : ∀ x, x ∈ ps -> I64 x.1 /\ I64 x.2.1 /\ I64 x.2.2) (hlt : ∀ ad n c, sv = .slice (some ad) n c -> ad.block < base) (hS : ScAt u0 sv ps)
   (K : ∀ a' u' cnt', Mb a' wb sv -> Lx base u0 u' wb s cnt' -> LSc Tryz.prog Orc Stop (Conc.G (bMp.at a' k) cs) u') :
   ∀ (d i : Nat) (a : Act) (u : World) (cnt : Nat), ps.length - i = d -> i <= ps.length -> Mb a wb sv -> tm a 6 = .int .i64 i -> Lx base u0 u wb s cnt -> cnt + d <= 5864062014700 ->
     LSc Tryz.prog Orc Stop (Conc.G (bMp.at a (.code mBd1 :: .inLoop mBd1 :: .inBlock 0 :: k)) cs) u := by
 intro d
 induction d with
 | zero =>
   intro i a u cnt hd hi hA h6 hL hc
   obtain ⟨p, cap, hsv, _⟩ := id hS
   subst hsv
   refine LSc.c_seq (x := cL mBd1) (y := cR mBd1) ?_
   refine LSc.c_seq (x := cL (cL mBd1)) (y := cR (cL mBd1)) ?_
   refine LSc.norm (fun a' u' => Mb a' wb (.slice p ps.length cap) /\ tm a' 6 = .int .i64 i /\ tm a' 27 = .bool (decide (i < ps.length)) /\ ∃ t, u' = World.on u t) (X.fit (by kernel_rfl))
     (fun t => Code.wp_mono ?_ (mp_5 (u := World.on u t) hA h6)) (fun a' u' t ⟨h1, h2, h3, t', e⟩ => ⟨h1, h2, h3, t, by rw [e]; rfl⟩) ?_
   · rintro e a' w' h
     cases e <;> first | exact h.elim | skip
     obtain ⟨h1, h2, h3, rfl⟩ := h
     exact ⟨h1, h2, h3, t, rfl⟩
   rintro a u1 ⟨hA, h6, h27, t1, rfl⟩
   refine LSc.c_cond (x := .skip) (y := .exit 0) false (by rw [tm_eval, h27, decide_eq_false (by omega)]) ?_
   refine LSc.c_exit (k' := k) rfl ?_
   obtain ⟨hold, wd, now, all, roots, gn, bb, cb, vb, F, G, B, t, vnow, vall, vroots, vgone, xs, hpos, hLw⟩ := hL
   exact K a _ cnt hA ⟨hold, wd, _, _, _, _, _, _, _, _, _, _, _, _, _, _, _, _, hpos, hLw.still (tn_on u t1)⟩
 | succ d ih =>
   intro i a u cnt hd hi hA h6 hL hc
   obtain ⟨p, cap, hsv, _⟩ := id hS
   refine LSc.c_seq (x := cL mBd1) (y := cR mBd1) ?_
   refine LSc.c_seq (x := cL (cL mBd1)) (y := cR (cL mBd1)) ?_
   refine LSc.norm (fun a' u' => Mb a' wb sv /\ tm a' 6 = .int .i64 i /\ tm a' 27 = .bool (decide (i < ps.length)) /\ ∃ t, u' = World.on u t) (X.fit (by kernel_rfl))
     (fun t => Code.wp_mono ?_ (mp_5 (u := World.on u t) (n := ps.length) (cap := cap) (p := p) (by rw [<- hsv]; exact hA) h6)) (fun a' u' t ⟨h1, h2, h3, t', e⟩ => ⟨h1, h2, h3, t, by rw [e]; rfl⟩) ?_
   · rintro e a' w' h
     cases e <;> first | exact h.elim | skip
     obtain ⟨h1, h2, h3, rfl⟩ := h
     exact ⟨by rw [hsv]; exact h1, h2, h3, t, rfl⟩
   rintro a u1 ⟨hA, h6, h27, t1, rfl⟩
   refine LSc.c_cond (x := .skip) (y := .exit 0) true (by rw [tm_eval, h27, decide_eq_true (by omega)]) ?_
   refine LSc.c_skip ?_
   refine LSc.c_seq (x := cL (cR mBd1)) (y := cR (cR mBd1)) ?_
   refine LSc.c_block (c := mIn1) ?_
   have hL1 : Lx base u0 (World.on u t1) wb s cnt := by
     obtain ⟨hold, wd, now, all, roots, gn, bb, cb, vb, F, G, B, t, vnow, vall, vroots, vgone, xs, hpos, hLw⟩ := hL
     exact ⟨hold, wd, _, _, _, _, _, _, _, _, _, _, _, _, _, _, _, _, hpos, hLw.still (tn_on u t1)⟩
   refine mp_round X hO (i := i) (ps := ps) hA h6 (by omega) hps (by omega) hI hlt hS hL1 fun a2 u2 hA2 h62 hL2 => ?_
   refine LSc.c_inBlock ?_
   refine LSc.norm (fun a' u' => Mb a' wb sv /\ tm a' 6 = .int .i64 ((i + 1 : Nat) : Int) /\ ∃ t, u' = World.on u2 t) (X.fit (by kernel_rfl))
     (fun t => Code.wp_mono ?_ (mp_6 (u := World.on u2 t) hA2 h62 (by omega))) (fun a' u' t ⟨h1, h2, t', e⟩ => ⟨h1, h2, t, by rw [e]; rfl⟩) ?_
   · rintro e a' w' h
     cases e <;> first | exact h.elim | skip
     obtain ⟨h1, h2, rfl⟩ := h
     exact ⟨h1, h2, t, rfl⟩
   rintro a3 u3 ⟨hA3, h63, t3, rfl⟩
   refine LSc.c_inLoop ?_
   have hL3 : Lx base u0 (World.on u2 t3) wb s (cnt + 1) := by
     obtain ⟨hold, wd, now, all, roots, gn, bb, cb, vb, F, G, B, t, vnow, vall, vroots, vgone, xs, hpos, hLw⟩ := hL2
     exact ⟨hold, wd, _, _, _, _, _, _, _, _, _, _, _, _, _, _, _, _, hpos, hLw.still (tn_on u2 t3)⟩
   exact ih (i + 1) a3 _ (cnt + 1) (by omega) (by omega) hA3 h63 hL3 (by omega)
section
variable {base : Nat} {u : World} {wd cnt : Nat} {now : KV} {all : List KV} {roots : List Int} {gn : List Bool} {wb s bb cb vb : Nat} {F G : Lit -> Option Value} {B : KV} {t : Go.Tm.T ByteArray} {vnow vall vroots vgone : Value} {xs : List Value}
omit [Env] [Runs] in
theorem same_root (hL : Lw base u wd cnt now all roots gn wb s bb cb vb F G B t vnow vall vroots vgone xs) {i k : Nat} (hi : i < all.length) (hk : k < all.length) {r q : Int} (hr : roots[i]? = some r) (hq : roots[k]? = some q) (e : all[i] = all[k]) : r = q := by
 obtain ⟨t1, h1, e1⟩ := hL.rts i hi
 obtain ⟨t2, h2, e2⟩ := hL.rts k hk
 rw [hr] at e1; rw [hq] at e2
 cases e1; cases e2
 rw [e] at h1
 rw [rep_unique h1 h2]
end
end
section
variable [Env] [Runs] {Orc : Oracle} {Stop : Frame -> World -> Prop}
variable {base : Nat} {u : World} {wd cnt : Nat} {now : KV} {all : List KV} {roots : List Int} {gn : List Bool} {wb s bb cb vb : Nat} {F G : Lit -> Option Value} {B : KV} {t : Go.Tm.T ByteArray} {vnow vall vroots vgone : Value} {xs : List Value}
set_option maxRecDepth 20000 in
set_option maxHeartbeats 1000000 in
theorem mp_loop4 (X : Setup Tryz.prog fnsM outsM orcsM) (hL : Lw base u wd cnt now all roots gn wb s bb cb vb F G B t vnow vall vroots vgone xs) {i : Nat} (hi : i < all.length) {K0 : List Item} {cs : List Frame}
   (K : ∀ a' u', Mc a' wb i -> Tn base (fun _ => False) (fun _ => False) u u' -> LSc Tryz.prog Orc Stop (Conc.G (bMp.at a' K0) cs) u') :
   ∀ (d k : Nat) (a : Act) (u1 : World), i - k = d -> k <= i -> Md a wb i k -> Tn base (fun _ => False) (fun _ => False) u u1 ->
     LSc Tryz.prog Orc Stop (Conc.G (bMp.at a (.code mBd4 :: .inLoop mBd4 :: .inBlock 4 :: K0)) cs) u1 := by
 intro d
 induction d with
 | zero =>
   intro k a u1 hd hk hA hT
   refine LSc.c_seq (x := cL mBd4) (y := cR mBd4) ?_
   refine LSc.c_seq (x := cL (cL mBd4)) (y := cR (cL mBd4)) ?_
   refine LSc.norm (fun a' u' => Md a' wb i k /\ tm a' 160 = .bool (decide (k < i)) /\ Tn base (fun _ => False) (fun _ => False) u u') (X.fit (by kernel_rfl))
     (fun t => Code.wp_mono ?_ (mp_24 (u := World.on u1 t) hA)) (fun a' u' t ⟨h1, h2, h3⟩ => ⟨h1, h2, h3.on t⟩) ?_
   · rintro e a' w' h
     cases e <;> first | exact h.elim | skip
     obtain ⟨h1, h2, rfl⟩ := h
     exact ⟨h1, h2, hT.on t⟩
   rintro a u2 ⟨hA, h160, hT2⟩
   refine LSc.c_cond (x := .skip) (y := .exit 4) false (by rw [tm_eval, h160, decide_eq_false (by omega)]) ?_
   refine LSc.c_exit (k' := K0) rfl ?_
   exact K a u2 hA.mc hT2
 | succ d ih =>
   intro k a u1 hd hk hA hT
   have hcn := hL.count
   refine LSc.c_seq (x := cL mBd4) (y := cR mBd4) ?_
   refine LSc.c_seq (x := cL (cL mBd4)) (y := cR (cL mBd4)) ?_
   refine LSc.norm (fun a' u' => Md a' wb i k /\ tm a' 160 = .bool (decide (k < i)) /\ Tn base (fun _ => False) (fun _ => False) u u') (X.fit (by kernel_rfl))
     (fun t => Code.wp_mono ?_ (mp_24 (u := World.on u1 t) hA)) (fun a' u' t ⟨h1, h2, h3⟩ => ⟨h1, h2, h3.on t⟩) ?_
   · rintro e a' w' h
     cases e <;> first | exact h.elim | skip
     obtain ⟨h1, h2, rfl⟩ := h
     exact ⟨h1, h2, hT.on t⟩
   rintro a u2 ⟨hA, h160, hT2⟩
   refine LSc.c_cond (x := .skip) (y := .exit 4) true (by rw [tm_eval, h160, decide_eq_true (by omega)]) ?_
   refine LSc.c_skip ?_
   refine LSc.c_seq (x := cL (cR mBd4)) (y := cR (cR mBd4)) ?_
   refine LSc.c_block (c := mIn4) ?_
   have hL2 := hL.still hT2
   have hki : k < all.length := by omega
   obtain ⟨g, cap, x, hva, _, hx, hcx, _⟩ := row_get hL2.rall hi
   obtain ⟨g', cap', y, hva', _, hy, hcy, _⟩ := row_get hL2.rall hki
   rw [hva] at hva'
   cases hva'
   obtain ⟨x', hx1, hOx⟩ := hL2.rx i hi
   obtain ⟨y', hy1, hOy⟩ := hL2.rx k hki
   have ex : x = x' := by rw [hx1] at hx; exact (Option.some.inj hx).symm
   have ey : y = y' := by rw [hy1] at hy; exact (Option.some.inj hy).symm
   subst ex
   subst ey
   have c3 := hL2.lw.cells.2.2.2.1
   rw [hva] at c3
   have hxs : ∃ p q c, x = .slice p q c := by obtain ⟨p, c, e⟩ := row_form hOx; exact ⟨p, _, c, e⟩
   have hys : ∃ p q c, y = .slice p q c := by obtain ⟨p, c, e⟩ := row_form hOy; exact ⟨p, _, c, e⟩
   have hsame : ∀ w, OwnP base w x all[i].prs -> OwnP base w y all[k].prs -> Calls Tryz.prog 11 #[x, y] w fun e w' => e = .returned (.bool (decide (all[i] = all[k]))) /\ ∃ n, w' = w.drewN n := fun w h1 h2 => by
     have := same_any h1.row h2.row (by rw [prs_length]; have := (hL2.vers i hi); obtain ⟨_, _, _, _, hr, _⟩ := this; have := hr.len; omega)
     rw [show decide (all[i].prs = all[k].prs) = decide (all[i] = all[k]) from by rw [decide_eq_decide]; exact ⟨prs_inj, fun e => by rw [e]⟩] at this
     exact this
   refine LSc.c_seq (x := cL mIn4) (y := cR mIn4) ?_
   refine LSc.norm (fun a' u' => Md a' wb i k /\ tm a' 19 = .bool (decide (all[i] = all[k])) /\ Tn base (fun _ => False) (fun _ => False) u u') (X.fit (by kernel_rfl))
     (fun t => Code.wp_mono ?_ (mp_26 (u := World.on u2 t) hA hi hki (by omega) c3 hcx hcy hxs hys (hsame _ (OwnP.drewN hOx 1) (OwnP.drewN hOy 1)))) (fun a' u' t ⟨h1, h2, h3⟩ => ⟨h1, h2, h3.on t⟩) ?_
   · rintro e a' w' h
     cases e <;> first | exact h.elim | skip
     obtain ⟨h1, h2, n, rfl⟩ := h
     exact ⟨h1, h2, hT2.trans ((Tn.below (u := World.on u2 t) (below_drewN _ _ n) hL2.bound).on' _)⟩
   rintro a u3 ⟨hA, h19, hT3⟩
   have hL3 := hL.still hT3
   obtain ⟨g4, cap4, r0, hvr, _, hr0, hcr, _⟩ := row_get hL3.rroots hi
   obtain ⟨g4', cap4', q0, hvr', _, hq0, hcq, _⟩ := row_get hL3.rroots hki
   rw [hvr] at hvr'
   cases hvr'
   obtain ⟨r, gi, hri, _, _⟩ := hL3.vers i hi
   obtain ⟨q, gk, hqk, _, _⟩ := hL3.vers k hki
   have er : r0 = .int .i64 r := by rw [List.getElem?_map, hri] at hr0; exact (Option.some.inj hr0).symm
   have eq' : q0 = .int .i64 q := by rw [List.getElem?_map, hqk] at hq0; exact (Option.some.inj hq0).symm
   subst er
   subst eq'
   have c4 := hL3.lw.cells.2.2.2.2.1
   rw [hvr] at c4
   refine LSc.c_seq (x := cL (cR mIn4)) (y := cR (cR mIn4)) ?_
   refine LSc.norm (fun a' u' => Md a' wb i k /\ tm a' 195 = .bool false /\ Tn base (fun _ => False) (fun _ => False) u u') (X.fit (by kernel_rfl))
     (fun t => Code.wp_mono ?_ (mp_27 (u := World.on u3 t) hA h19 hi hki (by omega) c4 hcr hcq fun hb => same_root hL3 hi hki hri hqk (of_decide_eq_true hb))) (fun a' u' t ⟨h1, h2, h3⟩ => ⟨h1, h2, h3.on t⟩) ?_
   · rintro e a' w' h
     cases e <;> first | exact h.elim | skip
     obtain ⟨h1, h2, n, rfl⟩ := h
     exact ⟨h1, h2, hT3.trans ((Tn.below (u := World.on u3 t) (below_drewN _ _ n) hL3.bound).on' _)⟩
   rintro a u4 ⟨hA, h195, hT4⟩
   refine LSc.c_cond (x := cT (cR (cR mIn4))) (y := .skip) false (by rw [tm_eval]; exact h195) ?_
   refine LSc.c_skip ?_
   refine LSc.c_inBlock ?_
   refine LSc.norm (fun a' u' => Md a' wb i (k + 1) /\ Tn base (fun _ => False) (fun _ => False) u u') (X.fit (by kernel_rfl))
     (fun t => Code.wp_mono ?_ (mp_25 (u := World.on u4 t) hA (by omega))) (fun a' u' t ⟨h1, h3⟩ => ⟨h1, h3.on t⟩) ?_
   · rintro e a' w' h
     cases e <;> first | exact h.elim | skip
     obtain ⟨h1, rfl⟩ := h
     exact ⟨h1, hT4.on t⟩
   rintro a u5 ⟨hA, hT5⟩
   refine LSc.c_inLoop ?_
   exact ih (k + 1) a u5 (by omega) (by omega) hA hT5
end
section
variable [Env] [Runs] {Orc : Oracle} {Stop : Frame -> World -> Prop}
section
variable {base : Nat} {u : World} {wd cnt : Nat} {now : KV} {all : List KV} {roots : List Int} {gn : List Bool} {wb s bb cb vb : Nat} {F G : Lit -> Option Value} {B : KV} {t : Go.Tm.T ByteArray} {vnow vall vroots vgone : Value} {xs : List Value}
set_option maxRecDepth 20000 in
set_option maxHeartbeats 1000000 in
theorem mp_loop2 (X : Setup Tryz.prog fnsM outsM orcsM) (hL : Lw base u wd cnt now all roots gn wb s bb cb vb F G B t vnow vall vroots vgone xs) {K0 : List Item} {cs : List Frame}
   (K : ∀ a' u' i, Mc a' wb i -> Tn base (fun _ => False) (fun _ => False) u u' -> LSc Tryz.prog Orc Stop (Conc.G (bMp.at a' K0) cs) u') :
   ∀ (d i : Nat) (a : Act) (u1 : World), all.length - i = d -> i <= all.length -> Mc a wb i -> Tn base (fun _ => False) (fun _ => False) u u1 ->
     LSc Tryz.prog Orc Stop (Conc.G (bMp.at a (.code mBd2 :: .inLoop mBd2 :: .inBlock 2 :: K0)) cs) u1 := by
 intro d
 induction d with
 | zero =>
   intro i a u1 hd hk hA hT
   have hL1 := hL.still hT
   obtain ⟨ap, ac, hva⟩ := row_form hL1.rall
   have c3 := hL1.lw.cells.2.2.2.1
   rw [hva] at c3
   refine LSc.c_seq (x := cL mBd2) (y := cR mBd2) ?_
   refine LSc.c_seq (x := cL (cL mBd2)) (y := cR (cL mBd2)) ?_
   refine LSc.norm (fun a' u' => Mc a' wb i /\ tm a' 83 = .bool (decide (i < all.length)) /\ Tn base (fun _ => False) (fun _ => False) u u') (X.fit (by kernel_rfl))
     (fun t => Code.wp_mono ?_ (mp_13 (u := World.on u1 t) hA c3)) (fun a' u' t ⟨h1, h2, h3⟩ => ⟨h1, h2, h3.on t⟩) ?_
   · rintro e a' w' h
     cases e <;> first | exact h.elim | skip
     obtain ⟨h1, h2, rfl⟩ := h
     exact ⟨h1, h2, hT.on t⟩
   rintro a u2 ⟨hA, h83, hT2⟩
   refine LSc.c_cond (x := .skip) (y := .exit 2) false (by rw [tm_eval, h83, decide_eq_false (by omega)]) ?_
   refine LSc.c_exit (k' := K0) rfl ?_
   exact K a u2 i hA hT2
 | succ d ih =>
   intro i a u1 hd hk hA hT
   have hcn := hL.count
   have hi : i < all.length := by omega
   have hL1 := hL.still hT
   obtain ⟨ap, ac, hva1⟩ := row_form hL1.rall
   have c3 := hL1.lw.cells.2.2.2.1
   rw [hva1] at c3
   refine LSc.c_seq (x := cL mBd2) (y := cR mBd2) ?_
   refine LSc.c_seq (x := cL (cL mBd2)) (y := cR (cL mBd2)) ?_
   refine LSc.norm (fun a' u' => Mc a' wb i /\ tm a' 83 = .bool (decide (i < all.length)) /\ Tn base (fun _ => False) (fun _ => False) u u') (X.fit (by kernel_rfl))
     (fun t => Code.wp_mono ?_ (mp_13 (u := World.on u1 t) hA c3)) (fun a' u' t ⟨h1, h2, h3⟩ => ⟨h1, h2, h3.on t⟩) ?_
   · rintro e a' w' h
     cases e <;> first | exact h.elim | skip
     obtain ⟨h1, h2, rfl⟩ := h
     exact ⟨h1, h2, hT.on t⟩
   rintro a u2 ⟨hA, h83, hT2⟩
   refine LSc.c_cond (x := .skip) (y := .exit 2) true (by rw [tm_eval, h83, decide_eq_true hi]) ?_
   refine LSc.c_skip ?_
   refine LSc.c_seq (x := cL (cR mBd2)) (y := cR (cR mBd2)) ?_
   refine LSc.c_block (c := mIn2) ?_
   -- behind the round
   have tail : ∀ a' u', Mc a' wb i -> Tn base (fun _ => False) (fun _ => False) u u' -> LSc Tryz.prog Orc Stop (Conc.G (bMp.at a' (.code (cR (cR mBd2)) :: .inLoop mBd2 :: .inBlock 2 :: K0)) cs) u' := by
     intro a u' hA hT'
     refine LSc.norm (fun a' u' => Mc a' wb (i + 1) /\ Tn base (fun _ => False) (fun _ => False) u u') (X.fit (by kernel_rfl))
       (fun t => Code.wp_mono ?_ (mp_14 (u := World.on u' t) hA (by omega))) (fun a' u' t ⟨h1, h3⟩ => ⟨h1, h3.on t⟩) ?_
     · rintro e a' w' h
       cases e <;> first | exact h.elim | skip
       obtain ⟨h1, rfl⟩ := h
       exact ⟨h1, hT'.on t⟩
     rintro a u5 ⟨hA, hT5⟩
     refine LSc.c_inLoop ?_
     exact ih (i + 1) a u5 (by omega) (by omega) hA hT5
   clear ih
   have hL2 := hL.still hT2
   obtain ⟨r, g, hri, hgi, hver⟩ := hL2.vers i hi
   refine LSc.c_seq (x := cL mIn2) (y := cR mIn2) ?_
   refine LSc.norm (fun a' u' => Mc a' wb i /\ tm a' 14 = .int .i64 (if g then 9 else 0) /\ (∃ vl, tm a' 13 = vl /\ OwnP base u' vl (if g then [] else all[i].prs)) /\ Tn base (fun _ => False) (fun _ => False) u u') (X.fit (by kernel_rfl))
     (fun t => Code.wp_mono ?_ (mp_15 (u := World.on u2 t) (base := base) hA (by omega) hL2.lw.cells.1 (walkL (hL2.still (tn_on u2 t)) hi hgi))) (fun a' u' t ⟨h1, h2, h3, h4⟩ => ⟨h1, h2, h3, h4.on t⟩) ?_
   · rintro e a' w' h
     cases e <;> first | exact h.elim | skip
     obtain ⟨h1, h2, vl, h3, h4, h5⟩ := h
     exact ⟨h1, h2, ⟨vl, h3, ownsRow_base h4 hL2.bound⟩, hT2.trans ((Tn.below h5 hL2.bound).on' _)⟩
   rintro a u3 ⟨hA, h14, ⟨vl, h13, hOv⟩, hT3⟩
   have hL3 := hL.still hT3
   refine LSc.c_seq (x := cL (cR mIn2)) (y := cR (cR mIn2)) ?_
   refine LSc.norm (fun a' u' => Mc a' wb i /\ tm a' 13 = vl /\ tm a' 14 = .int .i64 (if g then 9 else 0) /\ tm a' 15 = .int .i64 (if g then 0 else r) /\ tm a' 16 = .int .i64 (if g then 9 else 0) /\ ∃ t, u' = World.on u3 t) (X.fit (by kernel_rfl))
     (fun t => Code.wp_mono ?_ (mp_16 (u := World.on u3 t) hA h14 h13 (by omega) hL3.lw.cells.1 (rootL (hL3.still (tn_on u3 t)) hi hri hgi))) (fun a' u' t ⟨h1, h2, h3, h4, h5, t', e⟩ => ⟨h1, h2, h3, h4, h5, t, by rw [e]; rfl⟩) ?_
   · rintro e a' w' h
     cases e <;> first | exact h.elim | skip
     obtain ⟨h1, h2, h3, h4, h5, rfl⟩ := h
     exact ⟨h1, h2, h3, h4, h5, t, rfl⟩
   rintro a u4 ⟨hA, h13, h14, h15, h16, t4, rfl⟩
   have hT4 := hT3.on t4
   have hL4 := hL.still hT4
   have hgl : (gn.map Value.bool)[i]? = some (.bool g) := by rw [List.getElem?_map, hgi]; rfl
   obtain ⟨gb, gc, x0, hvg, _, hx0, hcx, _⟩ := row_get hL4.rgone hi
   rw [hgl] at hx0
   cases hx0
   have c5 := hL4.lw.cells.2.2.2.2.2
   rw [hvg] at c5
   refine LSc.c_seq (x := cL (cR (cR mIn2))) (y := cR (cR (cR mIn2))) ?_
   refine LSc.c_seq (x := cL (cL (cR (cR mIn2)))) (y := cR (cL (cR (cR mIn2)))) ?_
   refine LSc.norm (fun a' u' => Mc a' wb i /\ tm a' 13 = vl /\ tm a' 14 = .int .i64 (if g then 9 else 0) /\ tm a' 15 = .int .i64 (if g then 0 else r) /\ tm a' 16 = .int .i64 (if g then 9 else 0) /\ tm a' 112 = .bool g /\ ∃ t, u' = World.on u3 t) (X.fit (by kernel_rfl))
     (fun t => Code.wp_mono ?_ (mp_17 (u := World.on (World.on u3 t4) t) hA h13 h14 h15 h16 hi (by omega) c5 hcx)) (fun a' u' t ⟨h1, h2, h3, h4, h5, h6, t', e⟩ => ⟨h1, h2, h3, h4, h5, h6, t, by rw [e]; rfl⟩) ?_
   · rintro e a' w' h
     cases e <;> first | exact h.elim | skip
     obtain ⟨h1, h2, h3, h4, h5, h6, rfl⟩ := h
     exact ⟨h1, h2, h3, h4, h5, h6, t, rfl⟩
   rintro a u5 ⟨hA, h13, h14, h15, h16, h112, t5, rfl⟩
   have hT5 := hT3.on t5
   have hL5 := hL.still hT5
   cases g with
   | true =>
     refine LSc.c_cond (x := mGone) (y := .skip) true (by rw [tm_eval]; exact h112) ?_
     show LSc _ _ _ (Conc.G (Frame.at _ _ (.code mGone :: _)) _) _
     refine LSc.c_seq (x := cL mGone) (y := .exit 3) ?_
     obtain ⟨vp, vc, hvl⟩ := row_form hOv
     have h13' : tm a 13 = .slice vp 0 vc := by rw [h13, hvl]; rfl
     refine LSc.norm (fun a' u' => Mc a' wb i /\ Tn base (fun _ => False) (fun _ => False) u u') (X.fit (by kernel_rfl))
       (fun t => Code.wp_mono ?_ (mp_18 (u := World.on (World.on u3 t5) t) hA h13' h14 h15 h16)) (fun a' u' t ⟨h1, h3⟩ => ⟨h1, h3.on t⟩) ?_
     · rintro e a' w' h
       cases e <;> first | exact h.elim | skip
       obtain ⟨h1, rfl⟩ := h
       exact ⟨h1, hT5.on t⟩
     rintro a u6 ⟨hA, hT6⟩
     refine LSc.c_exit (k' := .code (cR (cR mBd2)) :: .inLoop mBd2 :: .inBlock 2 :: K0) rfl ?_
     exact tail a u6 hA hT6
   | false =>
     refine LSc.c_cond (x := mGone) (y := .skip) false (by rw [tm_eval]; exact h112) ?_
     refine LSc.c_skip ?_
     obtain ⟨g2, cap2, x, hva, _, hx, hcx2, _⟩ := row_get hL5.rall hi
     obtain ⟨x', hx1, hOx⟩ := hL5.rx i hi
     have ex : x = x' := by rw [hx1] at hx; exact (Option.some.inj hx).symm
     subst ex
     have c35 := hL5.lw.cells.2.2.2.1
     rw [hva] at c35
     have hxs : ∃ p q c, x = .slice p q c := by obtain ⟨p, c, e⟩ := row_form hOx; exact ⟨p, _, c, e⟩
     have hOv5 : OwnP base (World.on u3 t5) vl all[i].prs := (tn_on (base := base) (T := fun _ => False) (M := fun _ => False) u3 t5).row (fun e => e) hOv
     have hvs : ∃ p q c, vl = .slice p q c := by obtain ⟨p, c, e⟩ := row_form hOv5; exact ⟨p, _, c, e⟩
     have hsame : ∀ tp, Calls Tryz.prog 11 #[vl, x] (World.on (World.on u3 t5) tp) fun e w' => e = .returned (.bool true) /\ ∃ n, w' = (World.on (World.on u3 t5) tp).drewN n := fun tp => by
       have h1 : OwnP base (World.on (World.on u3 t5) tp) vl all[i].prs := (tn_on (base := base) (T := fun _ => False) (M := fun _ => False) (World.on u3 t5) tp).row (fun e => e) hOv5
       have h2 : OwnP base (World.on (World.on u3 t5) tp) x all[i].prs := (tn_on (base := base) (T := fun _ => False) (M := fun _ => False) (World.on u3 t5) tp).row (fun e => e) hOx
       have := same_any h1.row h2.row (by rw [prs_length]; have := hver.1.len; omega)
       rw [decide_eq_true rfl] at this
       exact this
     refine LSc.c_seq (x := cL (cR (cR (cR mIn2)))) (y := cR (cR (cR (cR mIn2)))) ?_
     refine LSc.norm (fun a' u' => Mc a' wb i /\ tm a' 14 = .int .i64 0 /\ tm a' 15 = .int .i64 r /\ tm a' 16 = .int .i64 0 /\ tm a' 17 = .bool true /\ Tn base (fun _ => False) (fun _ => False) u u') (X.fit (by kernel_rfl))
       (fun t => Code.wp_mono ?_ (mp_20 (u := World.on (World.on u3 t5) t) hA h13 h14 h15 h16 hi (by omega) c35 hcx2 hvs hxs (hsame t))) (fun a' u' t ⟨h1, h2, h3, h4, h5, h6⟩ => ⟨h1, h2, h3, h4, h5, h6.on t⟩) ?_
     · rintro e a' w' h
       cases e <;> first | exact h.elim | skip
       obtain ⟨h1, h2, h3, h4, h5, n, rfl⟩ := h
       exact ⟨h1, h2, h3, h4, h5, hT5.trans ((Tn.below (u := World.on (World.on u3 t5) t) (below_drewN _ _ n) hL5.bound).on' _)⟩
     rintro a u6 ⟨hA, h14, h15, h16, h17, hT6⟩
     have hL6 := hL.still hT6
     obtain ⟨g4, cap4, r0, hvr, _, hr0, hcr, _⟩ := row_get hL6.rroots hi
     have er : r0 = .int .i64 r := by rw [List.getElem?_map, hri] at hr0; exact (Option.some.inj hr0).symm
     subst er
     have c4 := hL6.lw.cells.2.2.2.2.1
     rw [hvr] at c4
     refine LSc.c_seq (x := cL (cR (cR (cR (cR mIn2))))) (y := mEnd2) ?_
     refine LSc.norm (fun a' u' => Mc a' wb i /\ Tn base (fun _ => False) (fun _ => False) u u') (X.fit (by kernel_rfl))
       (fun t => Code.wp_mono ?_ (mp_21 (u := World.on u6 t) hA h14 h15 h16 h17 hi (by omega) c4 hcr)) (fun a' u' t ⟨h1, h3⟩ => ⟨h1, h3.on t⟩) ?_
     · rintro e a' w' h
       cases e <;> first | exact h.elim | skip
       obtain ⟨h1, rfl⟩ := h
       exact ⟨h1, hT6.on t⟩
     rintro a u7 ⟨hA, hT7⟩
     refine LSc.c_seq (x := cL mEnd2) (y := cR mEnd2) ?_
     refine LSc.norm (fun a' u' => Md a' wb i 0 /\ Tn base (fun _ => False) (fun _ => False) u u') (X.fit (by kernel_rfl))
       (fun t => Code.wp_mono ?_ (mp_23 (u := World.on u7 t) hA)) (fun a' u' t ⟨h1, h3⟩ => ⟨h1, h3.on t⟩) ?_
     · rintro e a' w' h
       cases e <;> first | exact h.elim | skip
       obtain ⟨h1, rfl⟩ := h
       exact ⟨h1, hT7.on t⟩
     rintro a u8 ⟨hA, hT8⟩
     refine LSc.c_block (c := cB (cR mEnd2)) ?_
     refine LSc.c_loop (c := mBd4) ?_
     exact mp_loop4 X hL hi (fun a' u' h1 h2 => LSc.c_inBlock (tail a' u' h1 h2)) (i - 0) 0 a u8 rfl (Nat.zero_le _) hA hT8
end
def StopM (base : Nat) (u0 : World) (f : Frame) (u : World) : Prop := ∃ (a : Act) (k : List Item), f = { bMp.at a k with mode := .returning } /\ a.defers = [] /\ a.tmps.size = 196 /\ tm a 4 = .bool true /\ Old base u0 u
set_option maxRecDepth 20000 in
set_option maxHeartbeats 1000000 in
theorem mapped_runs (X : Setup Tryz.prog fnsM outsM orcsM) (hO : Answers Orc) {u : World} {c0 : Int} {sv : Value} {ps : List (Int × Int × Int)} (hc : I64 c0) (hps : ps.length <= 5864062014690) (hI : ∀ x, x ∈ ps -> I64 x.1 /\ I64 x.2.1 /\ I64 x.2.2) (hlt : ∀ ad n c, sv = .slice (some ad) n c -> ad.block < u.heap.size) (hS : ScAt u sv ps) :
   LSc Tryz.prog Orc (StopM u.heap.size u) (live (Frame.enter Tryz.prog 3 #[.int .i64 c0, sv] .normal) []) u := by
 rw [enter_at _ Tryz.func3 (show Tryz.f3.body = some mpC from rfl)]
 generalize ha : ({ tmps := #[Value.int .i64 c0, sv] ++ Array.replicate (Tryz.f3.ntmps - #[Value.int .i64 c0, sv].size) undef, defers := [] } : Act) = a
 have hA : Ma a := ⟨by rw [<- ha]; simp [Tryz.ntmps3], by rw [<- ha]⟩
 have h0 : tm a 0 = .int .i64 c0 := by rw [<- ha]; simp [tm]
 have h1 : tm a 1 = sv := by rw [<- ha]; simp [tm]
 clear ha
 show LSc _ _ _ (Conc.G (bMp.at a [.code mpC]) []) u
 refine LSc.c_seq (x := cL mpC) (y := cR mpC) ?_
 refine LSc.norm (fun a' u' => Ma a' /\ tm a' 0 = .int .i64 c0 /\ tm a' 1 = sv /\ ∃ t, u' = World.on u t) (X.fit (by kernel_rfl)) (fun t => Code.wp_mono ?_ (mp_0 (u := World.on u t) hA h0 h1)) (fun a' u' t ⟨h1, h2, h3, t', e⟩ => ⟨h1, h2, h3, t, by rw [e]; rfl⟩) ?_
 · rintro e a' w' h
   cases e <;> first | exact h.elim | skip
   obtain ⟨h1, h2, h3, rfl⟩ := h
   exact ⟨h1, h2, h3, t, rfl⟩
 rintro a u1 ⟨hA, h0, h1, t1, rfl⟩
 have hsz := hA.size
 refine LSc.c_seq (x := cL (cR mpC)) (y := cR (cR mpC)) ?_
 refine LSc.c_region (ops := opsOf (cL (cR mpC))) ?_
 show LSc _ _ _ (Conc.G (Frame.at _ _ (.inRegion _ [0, 1, 2] :: _)) _) _
 refine LSc.mv 20 (.int .i64 c0) (.tmp 0) rfl (X.free (by rfl)) rfl rfl rfl (.inl rfl) (by rw [tm_eval]; exact h0) ?_
 refine LSc.enterAt (f := 4) (args := #[.tmp 20]) (vs := #[.int .i64 c0]) rfl rfl rfl rfl Tryz.func4 (by rfl) rfl (by intro x hx; simp at hx; subst hx; trivial)
   (by simp [tm_eval, tm_eq, tm_ne, Eq.size_put, hsz]) ((X.runs _).2 (.inr (by decide))) ?_
 refine begun_runs X hO (u := World.on u t1) (base := u.heap.size) hc (Nat.le_refl _) _ _ (fun v ch e => by rw [Frame.finish_at] at e; cases e) ?_
 rintro x u2 ⟨wb, wd, now, all, roots, gn, s, bb, cb, vb, F, G, B, t, vnow, vall, vroots, vgone, xs, rfl, hold, hpos, hL⟩
 rw [Frame.finish_at]
 show LSc _ _ _ (Conc.G (Frame.at _ (Act.put _ (some 21) _) (.inRegion _ [2] :: _)) _) _
 refine LSc.mv 5 (.pointer (some ⟨wb, 0, none⟩)) (.tmp 21) rfl (X.free (by rfl)) rfl rfl rfl (.inr rfl) (by rw [tm_eval, tm_eq (by simp [Eq.size_put, hsz])]) ?_
 refine LSc.c_rend ?_
 generalize hact : Act.put (Act.put _ _ _) (some 5) _ = a2
 have hA2 : Mb a2 wb sv := by
   rw [<- hact]
   exact ⟨((hA.put _ _).put _ _).put _ _, by simp [tm_ne, h1], by rw [tm_eq (by simp [Eq.size_put, hsz])]⟩
 clear hact hA h0 h1 hsz
 have hLx : Lx u.heap.size u u2 wb s 3 := ⟨hold, wd, _, _, _, _, _, _, _, _, _, _, _, _, _, _, _, _, hpos, hL⟩
 clear hL hold hpos
 have stay : ∀ {u' : World} {cnt : Nat} (tp : Nat -> Question -> Nat), Lx u.heap.size u u' wb s cnt -> Lx u.heap.size u (World.on u' tp) wb s cnt := fun tp ⟨h1, wd, now, all, roots, gn, bb, cb, vb, F, G, B, t, vnow, vall, vroots, vgone, xs, h2, h3⟩ =>
   ⟨h1, wd, _, _, _, _, _, _, _, _, _, _, _, _, _, _, _, _, h2, h3.still (tn_on _ tp)⟩
 refine LSc.c_seq (x := cL (cR (cR mpC))) (y := cR (cR (cR mpC))) ?_
 refine LSc.norm (fun a' u' => Mb a' wb sv /\ ∃ t, u' = World.on u2 t) (X.fit (by kernel_rfl)) (fun t => Code.wp_mono ?_ (mp_2 (u := World.on u2 t) hA2)) (fun a' u' t ⟨h1, t', e⟩ => ⟨h1, t, by rw [e]; rfl⟩) ?_
 · rintro e a' w' h
   cases e <;> first | exact h.elim | skip
   obtain ⟨h1, rfl⟩ := h
   exact ⟨h1, t, rfl⟩
 rintro a u3 ⟨hA, t3, rfl⟩
 refine LSc.c_seq (x := mL1) (y := cR (cR (cR (cR mpC)))) ?_
 refine LSc.c_seq (x := cL mL1) (y := cR mL1) ?_
 refine LSc.norm (fun a' u' => Mb a' wb sv /\ tm a' 6 = .int .i64 0 /\ ∃ t, u' = World.on u2 t) (X.fit (by kernel_rfl)) (fun t => Code.wp_mono ?_ (mp_4 (u := World.on (World.on u2 t3) t) hA)) (fun a' u' t ⟨h1, h2, t', e⟩ => ⟨h1, h2, t, by rw [e]; rfl⟩) ?_
 · rintro e a' w' h
   cases e <;> first | exact h.elim | skip
   obtain ⟨h1, h2, rfl⟩ := h
   exact ⟨h1, h2, t, rfl⟩
 rintro a u4 ⟨hA, h6, t4, rfl⟩
 refine LSc.c_block (c := cB (cR mL1)) ?_
 refine LSc.c_loop (c := mBd1) ?_
 refine mp_loop1 X hO hps hI hlt hS (fun a5 u5 cnt5 hA5 hL5 => ?_) ps.length 0 a _ 3 (by omega) (Nat.zero_le _) hA h6 (stay t4 hLx) (by omega)
 obtain ⟨hold, wd, now, all, roots, gn, bb, cb, vb, F, G, B, t, vnow, vall, vroots, vgone, xs, hpos, hL⟩ := hL5
 refine LSc.c_seq (x := mL2) (y := cR (cR (cR (cR (cR mpC))))) ?_
 refine LSc.c_seq (x := cL mL2) (y := cR mL2) ?_
 refine LSc.norm (fun a' u' => Mc a' wb 0 /\ Tn u.heap.size (fun _ => False) (fun _ => False) u5 u') (X.fit (by kernel_rfl)) (fun t => Code.wp_mono ?_ (mp_12 (u := World.on u5 t) hA5)) (fun a' u' t ⟨h1, h2⟩ => ⟨h1, h2.on t⟩) ?_
 · rintro e a' w' h
   cases e <;> first | exact h.elim | skip
   obtain ⟨h1, rfl⟩ := h
   exact ⟨h1, tn_on u5 t⟩
 rintro a u6 ⟨hA, hT6⟩
 refine LSc.c_block (c := cB (cR mL2)) ?_
 refine LSc.c_loop (c := mBd2) ?_
 refine mp_loop2 X hL (fun a7 u7 i7 hA7 hT7 => ?_) all.length 0 a u6 (by omega) (Nat.zero_le _) hA hT6
 refine LSc.c_seq (x := cL (cR (cR (cR (cR (cR mpC)))))) (y := .ret) ?_
 refine LSc.norm (fun a' u' => Ma a' /\ tm a' 4 = .bool true /\ Tn u.heap.size (fun _ => False) (fun _ => False) u5 u') (X.fit (by kernel_rfl)) (fun t => Code.wp_mono ?_ (mp_29 (u := World.on u7 t) hA7)) (fun a' u' t ⟨h1, h2, h3⟩ => ⟨h1, h2, h3.on t⟩) ?_
 · rintro e a' w' h
   cases e <;> first | exact h.elim | skip
   obtain ⟨h1, h2, rfl⟩ := h
   exact ⟨h1, h2, hT7.on t⟩
 rintro a u8 ⟨hA, h4, hT8⟩
 refine LSc.ctl free_code calm_at (fun _ => stepG_ret') (fun ch e => by cases e) (LSc.done ⟨a, _, rfl, hA.defers, hA.size, h4, hold.trans (show Old u.heap.size u5 u8 from hT8.old)⟩)
end
end Go.Proofs.YtddcbeeldjjmeaaGreat
namespace Go.Proofs.YtddcbeeldjjmeaaGreat
open Go Go.Conc Go.Eq Go.Nest Go.RowKit Go.Conc.Lib Go.ConcR.Gen Go.ConcN.Gen
open Go.ConcR (DC0 WgAt)
open Go.ConcN (WgLive)
theorem sealed_oracleF [Env] {FinN : Perm -> Perm -> Goroutine -> World -> Prop} (h0 : Env.low = 0) (hs : ∀ b, ¬ Env.sealed b) : OracleOkF link.tWg Tryz.prog FinN MainC SealedOrc := by
 classical
 intro c π u w f args args' Post b rr hQ hx W H S hM K
 obtain ⟨hm, hC⟩ := hM
 obtain ⟨rfl, n, b0, t, hn, hW, rfl, hN, rfl⟩ := hQ
 obtain ⟨b1, e0, rfl⟩ : ∃ b1, π b0 = some b1 /\ args' = #[.pointer (ptr b1), .int .i64 n] := by
   have hsz : args'.size = 2 := hx.1.symm
   rcases hx.get? 0 with ⟨e1, -⟩ | ⟨x, y, e1, e2, e3⟩
   · cases e1
   rcases hx.get? 1 with ⟨e4, -⟩ | ⟨x', y', e4, e5, e6⟩
   · cases e4
   cases e1; cases e4
   cases e6
   cases e3 with
   | @pointer _ a' ha =>
     obtain ⟨y, ey, hy⟩ := optA_ptr (l' := some a') (.inr ⟨_, _, rfl, rfl, ha⟩)
     rw [ey] at e2
     refine ⟨y, hy, Array.ext_getElem? fun i => ?_⟩
     rcases i with _ | _ | i
     · exact e2
     · exact e5
     · rw [Array.getElem?_eq_none (by omega)]; rfl
 have hown : ∀ x y, π x = some y -> ∀ a : Addr, a.block = y -> c.own a := fun x y h a e => (H x y h a e).resolve_right fun h => hs _ h.1
 refine sealed_main (A := fun y => y < w.heap.size /\ ¬ ∃ x, π x = some y /\ PlainB u x) (D := fun y => ∃ x, π x = some y /\ PlainB u x) hn hW hm hC S (fun x h => h.1) (fun y hy a e => .inl (hown _ _ hy.choose_spec.1 a e)) ((nd_right W e0 (nd_plain hN)).mono fun y hy => ⟨⟨Nat.zero_le _, fun h => h.2 hy⟩, hy⟩) ?_
 intro c' w' b' O hS
 have hR : ∀ y, ((0 <= y /\ ¬ (y < w.heap.size /\ ¬ ∃ x, π x = some y /\ PlainB u x)) /\ ∀ a : Addr, a.block = y -> c'.own a) -> y < w.heap.size -> ∃ x, π x = some y /\ PlainB u x := fun y hy hlt => Classical.byContradiction fun h => hy.1.2 ⟨hlt, h⟩
 have W' := made_rel (nt := nodeT) (dg := dgw n) hR W h0 hs (fun x y o h => O.same _ (.inl (hown x y h _ rfl))) O.os
 have hcf := O.cfg
 refine K (.pointer (ptr (inv π u w b'))) (.pointer (ptr b')) _ _ w' c' ⟨wider_le W, fun a h => O.own a (.inl h), O.size, fun x y h => ?_, fun a ha _ => O.same a (.inl ha), O.os, O.output⟩ (.pointer ⟨wider_inv hR W hS, rfl, rfl, by rw [h0]; exact Nat.zero_le _⟩) W' (fun x y h a e => .inl ?_) O.snug
   ⟨by rw [hcf]; exact hm, by rw [hcf]; exact ⟨hC.deaf, hC.cur, hC.pend, hC.kids, hC.ub⟩⟩ ⟨_, rfl, ⟨by rw [made_size]; omega, fun y hy => made_old hy, rfl⟩, sd_made hR W' W hS⟩
 · unfold wider at h
   split at h
   · exact .inl h
   · split at h
     · cases h; exact .inr (Nat.le_add_right _ _)
     · cases h
 unfold wider at h
 split at h
 · exact O.own a (.inl (hown x y h a e))
 · split at h
   · rename_i h2
     cases h
     obtain ⟨-, t', ht⟩ := h2
     exact (show ((0 <= _ /\ ¬ (_ < w.heap.size /\ ¬ ∃ x, π x = some _ /\ PlainB u x)) /\ ∀ a : Addr, a.block = _ -> c'.own a) by cases t' <;> exact ht.1).2 a e
   · cases h
end Go.Proofs.YtddcbeeldjjmeaaGreat
namespace Go.Proofs.YtddcbeeldjjmeaaGreat
open Go Go.Conc Go.Eq Go.Nest Go.RowKit Go.Conc.Lib Go.ConcR.Gen Go.ConcN.Gen
open Go.ConcR (DC0 WgAt)
open Go.ConcN (WgLive)
set_option linter.unusedVariables false
set_option linter.unusedSimpArgs false
@[reducible] def envMap : Env := envR Tryz.prog fnsM 0
@[reducible] def runsMap : @Runs envMap := @runsOf envMap outsM orcsM
theorem mainC_own (c : Cfg) (own : Perm) (h : MainC c) : MainC { c with own := own } := ⟨h.1, ⟨h.2.deaf, h.2.cur, h.2.pend, h.2.kids, h.2.ub⟩⟩
set_option maxRecDepth 20000 in
theorem mapped_good {W u0 : World} {π0 : Ren} {c0 : Int} {sv : Value} {ps : List (Int × Int × Int)}
   (hW : @WRel envMap π0 u0 W) (hsz : u0.heap.size = W.heap.size) (hsv : @VRel envMap π0 sv sv) (hc : I64 c0) (hps : ps.length <= 5864062014690) (hI : ∀ x, x ∈ ps -> I64 x.1 /\ I64 x.2.1 /\ I64 x.2.2)
   (hlt : ∀ ad n c, sv = .slice (some ad) n c -> ad.block < u0.heap.size) (hS : ScAt u0 sv ps)
   (hkeep : ∀ π u' w, @WRel envMap π u' w -> π0.le π -> (∀ k, k < u0.heap.size -> u'.heap[k]? = u0.heap[k]?) -> ∀ k x, π0 x = some k -> k < W.heap.size -> w.heap[k]? = W.heap[k]?) :
   ∃ N last ou w' t', runNT Tryz.prog (N + 1) (solo (Eq.live (Frame.enter Tryz.prog 3 #[.int .i64 c0, sv] .normal) []) W) #[] = (.ended ou w', t') /\
     runN Tryz.prog N (solo (Eq.live (Frame.enter Tryz.prog 3 #[.int .i64 c0, sv] .normal) []) W) = .next last /\ step Tryz.prog last = .ended ou w' /\
     Conc.Good Tryz.prog (fun v w' => v = .bool true /\ Below W.heap.size W.blind w'.blind) last ou w' t' := by
 letI : Env := envMap
 letI : Runs := runsMap
 have X : Setup Tryz.prog fnsM outsM orcsM := setup_of
 have hfit : @BodiesOk envMap (@plainRuns envMap) Tryz.prog /\ @FnsOk envMap Tryz.prog /\ @POk envMap Tryz.prog := fit_all (low := 0) fnsM_fit zerosM_fit (by rw [globsM_fit]; exact Nat.le_refl 0)
 have hO : Answers (OrOrc SealedOrc (CallsOrc Tryz.prog)) := ⟨fun _ _ _ _ h => .inl h, fun _ _ _ _ h => .inr h⟩
 have hs : ∀ b, ¬ Env.sealed b := fun _ h => h
 have hb : BodiesOk Tryz.prog := bodies_okO X hfit.1 outsM_fit
 have hL := mapped_runs X hO hc hps hI hlt hS
 have hargs : VsRel π0 #[.int .i64 c0, sv] #[.int .i64 c0, sv] := ((VsRel.empty π0).push (.int _ _)).push hsv
 refine script_runs (ty := link.tWg) (o := fun a => a.block < W.heap.size) (r := fun _ => False) (by rintro a (h | h); exact h; exact h.elim) ?_
 refine LSc.scriptF (C := MainC) hs hfit.2.2 hfit.2.1 hb hfit.1 (or_okF (sealed_oracleF rfl hs) (calls_okF hs hfit mainC_own)) mainC_own (c00 := allCfg W) (π00 := π0) (w00 := W) (fun a h => h) ?_ hL π0 _ W (allCfg W)
   ⟨_, _, _, _, rfl, rfl, FrRel.enter hb ((X.runs _).2 (.inr (by decide))) hargs, .base⟩ hW (fun b b' e a ha => .inl (by show a.block < W.heap.size; rw [ha]; exact (hW.size e).2)) (snug_all W) ⟨rfl, ⟨rfl, rfl, rfl, rfl, rfl⟩⟩ (Fw.refl _ _ _)
 intro π f f' u w c hfr hst W' H S hC hF
 obtain ⟨a, k, rfl, hd, hsize, h4, hold⟩ := hst
 have hfn : f'.fn = 3 := hfr.fn.symm
 have hm : f'.mode = .returning := hfr.mode.symm
 have hdf : f'.defers = [] := by
   have h := hfr.defers
   rw [show ({ bMp.at a k with mode := .returning } : Frame).defers = a.defers from rfl, hd] at h
   generalize f'.defers = l at h
   cases h; rfl
 have ht : f'.tmps.getD 4 undef = .bool true := by
   have h := hfr.tmps.getD 4 (undef_rel π)
   rw [show ({ bMp.at a k with mode := .returning } : Frame).tmps.getD 4 undef = Value.bool true by rw [<- h4]; simp [tm, Frame.at, hsize, Array.getD]] at h
   generalize f'.tmps.getD 4 undef = l at h
   cases h; rfl
 have hr : Nest.Returns Tryz.prog (.bool true) (Eq.live f' []) := returns_of hm hdf hfr.kind' (by rw [hfn]; exact Tryz.func3) (by
   show results _ f'.tmps = _
   have ht2 : f'.tmps[4]?.getD undef = Value.bool true := by rw [<- ht]; simp [Array.getD_eq_getD_getElem?]
   simp [results, Tryz.results3, ht2]
   rfl) (by rw [hfn]; kernel_rfl)
 refine ScS.fin rfl rfl hC.1 hC.2.cur hC.2.deaf fun w₁ hrel => ⟨.bool true, hr, fun d => ⟨rfl, ?_⟩⟩
 have F1 := hF.rely hrel
 show Below W.heap.size W.blind w₁.blind
 exact fw_below F1 (hkeep π u w₁ (W'.held H hrel) F1.le hold)
end Go.Proofs.YtddcbeeldjjmeaaGreat
namespace Go.Proofs.YtddcbeeldjjmeaaGreat
open Go Go.Conc Go.Eq Go.Nest Go.RowKit Go.ChangeShapes Go.WideShapes
set_option linter.unusedVariables false
set_option linter.unusedSimpArgs false
section
variable {H : Type} {enc : TypeId × Value -> H} {P : Program} {w : World} {base : Nat} {spare : Nat -> Bool} {held : Bool}
theorem wfI {n : Int} (h : (Lit.int .i64 n).wf = true) : I64 n := by
 simp only [Lit.wf, Bool.and_eq_true, decide_eq_true_eq] at h
 have := h
 simp only [IntKind.min, IntKind.max, IntKind.signed, IntKind.bits] at this
 exact ⟨by have := this.1; simpa using this, by have := this.2; simpa using this⟩
theorem open_trip {t e : TypeId} {f0 f1 f2 : Field} {fuel : Nat} {cs : List Value} {x : DataW H × List MemPlace} (ht : P.underlying t = some (.slice e)) (he : P.underlying e = some (.struct #[f0, f1, f2])) (hc : P.cellsOf e = 3)
   (h0 : P.underlying f0.type = some (.int .i64) /\ f0.offset = 0 /\ P.cellsOf f0.type = 1) (h1 : P.underlying f1.type = some (.int .i64) /\ f1.offset = 1 /\ P.cellsOf f1.type = 1) (h2 : P.underlying f2.type = some (.int .i64) /\ f2.offset = 2 /\ P.cellsOf f2.type = 1)
   (h : DataW.trod enc P w base spare held fuel t cs = some x) :
   (cs = [.slice none 0 0] /\ x = (.nil, [])) ∨
   ∃ (a : Addr) (cap : Nat) (ps : List (Int × Int × Int)) (el rest : List (DataW H)), cs = [.slice (some a) ps.length cap] /\ x.1 = .slice el rest /\ el.length = ps.length /\ (∀ y, y ∈ ps -> I64 y.1 /\ I64 y.2.1 /\ I64 y.2.2) /\
     ∀ (i : Nat) (hi : i < ps.length), w.cell? (a.add (i * 3)) = some (.int .i64 ps[i].1) /\ w.cell? ((a.add (i * 3)).add 1) = some (.int .i64 ps[i].2.1) /\ w.cell? ((a.add (i * 3)).add 2) = some (.int .i64 ps[i].2.2) := by
 rcases DataW.trod_slice ht h with h3 | ⟨a, len, cap, elems, rest, n, _, rfl, rfl, hb, hl, hm, hlen, hel, -, -⟩
 · exact .inl h3
 right
 have each : ∀ i, i < len -> ∃ p : Int × Int × Int, (I64 p.1 /\ I64 p.2.1 /\ I64 p.2.2) /\ w.cell? (a.add (i * 3)) = some (.int .i64 p.1) /\ w.cell? ((a.add (i * 3)).add 1) = some (.int .i64 p.2.1) /\ w.cell? ((a.add (i * 3)).add 2) = some (.int .i64 p.2.2) := by
   intro i hi
   have h4 := hel i hi
   rw [hc] at h4
   rw [List.getElem?_eq_getElem (by omega)] at h4
   rw [Option.bind_eq_some_iff] at h4
   obtain ⟨cs', hcs, h5⟩ := h4
   obtain ⟨y0, y1, y2, m, -, h6, h7, h8, h9⟩ := Deep.trod_struct3 he h5
   rw [h0.2.1, h0.2.2] at h7
   rw [h1.2.1, h1.2.2] at h8
   rw [h2.2.1, h2.2.2] at h9
   obtain ⟨n0, e0, -, w0⟩ := DataW.trod_int h0.1 h7
   obtain ⟨n1, e1, -, w1⟩ := DataW.trod_int h1.1 h8
   obtain ⟨n2, e2, -, w2⟩ := DataW.trod_int h2.1 h9
   obtain ⟨-, g1, g2⟩ := World.cells?_some hcs
   have k : ∀ (q : Nat) v, (cs'.drop q).take 1 = [v] -> cs'[q]? = some v := fun q v e => by
     have := congrArg (·[0]?) e
     simpa using this
   refine ⟨(n0, n1, n2), ⟨wfI w0, wfI w1, wfI w2⟩, ?_, ?_, ?_⟩
   · have := g2 0 (by omega)
     rw [k 0 _ e0] at this
     simpa [Addr.add] using this
   · rw [g2 1 (by omega), k 1 _ e1]
   · rw [g2 2 (by omega), k 2 _ e2]
 have hps : ∃ ps : List (Int × Int × Int), ps.length = len /\ (∀ y, y ∈ ps -> I64 y.1 /\ I64 y.2.1 /\ I64 y.2.2) /\
     ∀ (i : Nat) (hi : i < ps.length), w.cell? (a.add (i * 3)) = some (.int .i64 ps[i].1) /\ w.cell? ((a.add (i * 3)).add 1) = some (.int .i64 ps[i].2.1) /\ w.cell? ((a.add (i * 3)).add 2) = some (.int .i64 ps[i].2.2) := by
   classical
   refine ⟨(List.range len).map fun i => if h : i < len then (each i h).choose else (0, 0, 0), by simp, fun y hy => ?_, fun i hi => ?_⟩
   · obtain ⟨i, hi, rfl⟩ := List.mem_map.1 hy
     have hi' : i < len := by simpa using hi
     rw [dif_pos hi']
     exact (each i hi').choose_spec.1
   · have hi' : i < len := by simpa using hi
     simp only [List.getElem_map, List.getElem_range, dif_pos hi']
     exact (each i hi').choose_spec.2
 obtain ⟨ps, e1, e2, e3⟩ := hps
 subst e1
 exact ⟨a, cap, ps, _, _, rfl, rfl, by simpa using hlen, e2, e3⟩
end
theorem add_at {a : Addr} {n : Nat} {w : World} {v : Value} (h : w.cell? (a.add n) = some v) : a.add n = ⟨a.block, a.off + n, none⟩ := by
 by_cases hn : n = 0
 · subst hn
   obtain ⟨b, o, s⟩ := a
   rw [show Addr.add ⟨b, o, s⟩ 0 = ⟨b, o, s⟩ by simp [Addr.add]] at h ⊢
   cases s with
   | none => rfl
   | some s =>
     unfold World.cell? at h
     split at h
     · simp at h
     · cases h
 · simp [Addr.add, hn]
theorem mapped_start {W : World} {c0 : Int} {a0 : Option Addr} {cap : Nat} {ps : List (Int × Int × Int)} (hc : I64 c0) (hps : ps.length <= 5864062014690) (hI : ∀ x, x ∈ ps -> I64 x.1 /\ I64 x.2.1 /\ I64 x.2.2)
   (hsh : ∀ ad, a0 = some ad -> ∃ c t f, W.heap[ad.block]? = some (.cells c t f))
   (hcell : ∀ (i : Nat) (hi : i < ps.length), ∃ ad : Addr, a0 = some ad /\ W.cell? (ad.add (i * 3)) = some (.int .i64 ps[i].1) /\ W.cell? ((ad.add (i * 3)).add 1) = some (.int .i64 ps[i].2.1) /\ W.cell? ((ad.add (i * 3)).add 2) = some (.int .i64 ps[i].2.2)) :
   ∃ N last ou w' t', runNT Tryz.prog (N + 1) (solo (Eq.live (Frame.enter Tryz.prog 3 #[.int .i64 c0, .slice a0 ps.length cap] .normal) []) W) #[] = (.ended ou w', t') /\
     runN Tryz.prog N (solo (Eq.live (Frame.enter Tryz.prog 3 #[.int .i64 c0, .slice a0 ps.length cap] .normal) []) W) = .next last /\ step Tryz.prog last = .ended ou w' /\
     Conc.Good Tryz.prog (fun v w' => v = .bool true /\ Below W.heap.size W.blind w'.blind) last ou w' t' := by
 letI : Env := envMap
 cases a0 with
 | none =>
   have hz : ps.length = 0 := by
     rcases Nat.eq_zero_or_pos ps.length with h | h
     · exact h
     · obtain ⟨ad, e, -⟩ := hcell 0 h; cases e
   refine mapped_good (W := W) (u0 := W) (π0 := fun _ => none) ⟨fun a b c h _ => absurd h (by simp), fun b b' h => absurd h (by simp), rfl, fun b h => h.elim, fun b h => absurd h (Nat.not_lt_zero b), fun b _ _ _ h => h.elim⟩ rfl (.snil _ _) hc hps hI (fun ad n c e => by cases e) ⟨none, cap, rfl, fun i hi => absurd hi (by omega)⟩
     fun π u' w _ _ _ k x h => by cases h
 | some ad =>
   obtain ⟨c, t, f, hb⟩ := hsh ad rfl
   have hint : ∀ j, j < ps.length * 3 -> ∃ n : Int, c[ad.off + j]? = some (.int .i64 n) := by
     intro j hj
     have hi : j / 3 < ps.length := by omega
     obtain ⟨ad', e, q0, q1, q2⟩ := hcell (j / 3) hi
     cases e
     have e0 := add_at q0
     rw [e0] at q0 q1 q2
     have r : ∀ o v, W.cell? ⟨ad.block, o, none⟩ = some v -> c[o]? = some v := fun o v h => by simpa [World.cell?, hb] using h
     have : j % 3 = 0 ∨ j % 3 = 1 ∨ j % 3 = 2 := by omega
     rcases this with h | h | h
     · exact ⟨_, by rw [show ad.off + j = ad.off + j / 3 * 3 by omega]; exact r _ _ q0⟩
     · exact ⟨_, by rw [show ad.off + j = ad.off + j / 3 * 3 + 1 by omega]; exact r _ _ (by simpa [Addr.add] using q1)⟩
     · exact ⟨_, by rw [show ad.off + j = ad.off + j / 3 * 3 + 2 by omega]; exact r _ _ (by simpa [Addr.add] using q2)⟩
   obtain ⟨d, hsz, hin, hrel, honly⟩ := start_rel (W := W) rfl (fun _ h => h) hb ad.off (ad.off + ps.length * 3) (fun i v h1 h2 e => by
     obtain ⟨n, hn⟩ := hint (i - ad.off) (by omega)
     rw [show ad.off + (i - ad.off) = i by omega, e] at hn
     cases hn
     exact ⟨fun _ => .int _ _, fun _ w' h => by cases h; rfl⟩)
   have hlt : ad.block < W.heap.size := (Array.getElem?_eq_some_iff.1 hb).1
   have hu0 : ({ W with heap := W.heap.setIfInBounds ad.block (.cells d t f) } : World).heap[ad.block]? = some (.cells d t f) := Array.getElem?_setIfInBounds_self_of_lt hlt
   refine mapped_good (W := W) (u0 := { W with heap := W.heap.setIfInBounds ad.block (.cells d t f) }) (π0 := fun x => if x = ad.block then some ad.block else none) hrel (by simp) (.slice _ _ ⟨by simp, rfl, rfl, Nat.zero_le _⟩) hc hps hI (fun ad' n c e => by cases e; simpa using hlt)
     ⟨some ad, cap, rfl, fun i hi => ?_⟩ ?_
   · obtain ⟨ad', e, q0, q1, q2⟩ := hcell i hi
     cases e
     have e0 := add_at q0
     have r : ∀ o v, ad.off <= o -> o < ad.off + ps.length * 3 -> W.cell? ⟨ad.block, o, none⟩ = some v -> ({ W with heap := W.heap.setIfInBounds ad.block (.cells d t f) } : World).cell? ⟨ad.block, o, none⟩ = some v := fun o v h1 h2 h => by
       have h3 : c[o]? = some v := by simpa [World.cell?, hb] using h
       rw [<- hin o h1 h2] at h3
       unfold World.cell?
       simp only [hu0]
       simpa using h3
     refine ⟨ad, rfl, ?_, ?_, ?_⟩
     · rw [e0] at q0 ⊢
       exact r _ _ (by omega) (by omega) q0
     · rw [e0] at q1 ⊢
       exact r _ _ (by simp only []; omega) (by simp only []; omega) (by simpa [Addr.add] using q1)
     · rw [e0] at q2 ⊢
       exact r _ _ (by simp only []; omega) (by simp only []; omega) (by simpa [Addr.add] using q2)
   · intro π u' w W' hle hold k x hx hk
     have hx' : x = ad.block /\ k = ad.block := by
       by_cases e : x = ad.block
       · simp only [e, if_true, Option.some.injEq] at hx; exact ⟨e, hx.symm⟩
       · simp only [e, if_false] at hx; cases hx
     obtain ⟨rfl, rfl⟩ := hx'
     rw [hb]
     exact end_same (fun _ h => h) W' (hle _ _ (by simp)) ((hold _ (by simpa using hlt)).trans hu0) honly
end Go.Proofs.YtddcbeeldjjmeaaGreat
namespace Go.Proofs.YtddcbeeldjjmeaaGreat.mapped
open Go Go.Conc Go.ChangeShapes Go.WideShapes Go.ChangeAt Go.RowKit Go.Proofs.YtddcbeeldjjmeaaGreat
set_option linter.unusedVariables false
set_option linter.unusedSimpArgs false
theorem own : ownKnob Tryz.prog.godebug = none := by kernel_rfl
theorem laidOut : laidOutB Tryz.prog = true := by kernel_rfl
theorem cellsStep : Tryz.prog.cellsOf 27 = 3 := by kernel_rfl
theorem bytesStep : Tryz.prog.bytesOf 27 = 24 := by kernel_rfl
theorem rowed : Tryz.prog.readableRec 22 = true := by kernel_rfl
set_option maxRecDepth 100000 in
theorem lifted (os : Os) (started : os.Started) (H : Type) (enc : TypeId × Value -> H) :
   ReturnsInLeavingWide {} Tryz.checked os 3 .any (Rows.mappedSpec.pre6 enc Tryz.prog Tryz.f3 Rows.mappedRow.domain false) (Rows.mappedSpec.post enc Tryz.prog Tryz.f3 false true false false) := by
 refine returnsInLeavingWide_of_change_sized (C := Tryz.checked) own started Tryz.func3
   (ChangeSpec.witness6 (enc := enc) (C := Tryz.checked) false ⟨#[], #[.int .i64 0, .slice none 0 0], []⟩ 8 (by kernel_rfl) (by kernel_rfl) (by kernel_rfl) (by kernel_rfl)) ?_
 intro W base args ds gs before hval0 hW _ hsz0 _
 have hsz : (DataW.weightsEach Tryz.prog (Tryz.f3.params.toList ++ Rows.mappedSpec.plain.varTypes Tryz.prog) (ds ++ gs)).all (· <= reachBytes) = true := hsz0
 clear hsz0
 have hval : ∀ (j : Nat) t v, Tryz.f3.params[j]? = some t -> args[j]? = some v -> Value.okWide Tryz.prog W .any base t v := hval0
 have hW' := hW
 obtain ⟨p, q, hA0, hV, rfl, hfz, hnd⟩ := hW
 have hA : DataW.TrodAll enc Tryz.prog W 0 (fun _ => true) true Tryz.f3.params.toList args.toList ds p := hA0
 rw [Tryz.params3] at hA hval hsz
 obtain ⟨v0, vs0, d0, ds0, p0, q0, hargs, rfl, rfl, h0, r0⟩ := trodAll_cons hA
 obtain ⟨v1, vs1, d1, ds1, p1, q1, rfl, rfl, rfl, h1, r1⟩ := trodAll_cons r0
 obtain ⟨rfl, rfl, rfl⟩ := trodAll_nil r1
 obtain rfl : args = #[v0, v1] := by cases args; simp_all
 obtain ⟨rfl, rfl⟩ := trodVars_none hV
 have t1 := h1
 have hlt : ∀ x ∈ p0 ++ (p1 ++ []), x.block < W.heap.size := fun x hx => by simpa using hW'.lt x (by simpa using hx)
 obtain ⟨a, rfl, rfl, rfl, wa⟩ := open_int Tryz.underlying3 (hval 0 3 v0 rfl rfl) h0
 have hok := hval 1 22 v1 rfl rfl
 obtain ⟨a0, len, cap, rfl⟩ := okWide_slice Tryz.underlying22 hok
 obtain ⟨fuel, hf⟩ := h1
 clear hA0 hval0
 have hblk : ∀ ad, a0 = some ad -> ∃ c t f, W.heap[ad.block]? = some (.cells c t f) := by
   rintro ad rfl
   simp only [Value.okWide, Tryz.underlying22, Cell.okWide, Cell.ok, World.has] at hok
   obtain ⟨-, -, -, -, row, cells, hs, -⟩ := hok
   simp only [World.shape?] at hs
   split at hs
   · exact ⟨_, _, _, by assumption⟩
   · cases hs
 have key : ∃ ps : List (Int × Int × Int), len = ps.length /\ ps.length <= 5864062014690 /\ (∀ x, x ∈ ps -> I64 x.1 /\ I64 x.2.1 /\ I64 x.2.2) /\
     ∀ (i : Nat) (hi : i < ps.length), ∃ ad : Addr, a0 = some ad /\ W.cell? (ad.add (i * 3)) = some (.int .i64 ps[i].1) /\ W.cell? ((ad.add (i * 3)).add 1) = some (.int .i64 ps[i].2.1) /\ W.cell? ((ad.add (i * 3)).add 2) = some (.int .i64 ps[i].2.2) := by
   rcases open_trip Tryz.underlying22 Tryz.underlying27 cellsStep ⟨Tryz.underlying3, rfl, by kernel_rfl⟩ ⟨Tryz.underlying3, rfl, by kernel_rfl⟩ ⟨Tryz.underlying3, rfl, by kernel_rfl⟩ hf with ⟨hcs, hx⟩ | ⟨ad, cap', ps, el, rest, hcs, hd, hel, hr, hcell⟩
   · simp [Value.cells] at hcs
     obtain ⟨rfl, rfl, rfl⟩ := hcs
     exact ⟨[], rfl, by simp, by simp, fun i hi => absurd hi (Nat.not_lt_zero i)⟩
   · simp [Value.cells] at hcs
     obtain ⟨rfl, rfl, rfl⟩ := hcs
     simp only at hd
     subst hd
     have hreach := sized_slice hsz (j := 1) (t := 22) (e := 27) rfl rfl Tryz.underlying22
     rw [bytesStep, hel] at hreach
     simp only [reachBytes] at hreach
     exact ⟨ps, rfl, by omega, hr, fun i hi => ⟨ad, rfl, hcell i hi⟩⟩
 obtain ⟨ps, rfl, hps, hr, hcell⟩ := key
 obtain ⟨N, last, ou, w', t', g1, g2, g3, g4⟩ := mapped_start (W := W) (a0 := a0) (cap := cap) (wfI wa) hps hr hblk hcell
 refine ⟨N, last, ou, w', t', g1, g2, g3, g4.mono fun v ⟨he, hb0⟩ => ?_⟩
 subst he
 suffices hpost : Rows.mappedSpec.post enc Tryz.prog Tryz.f3 false true false false W #[.int .i64 a, .slice a0 ps.length cap] (.bool true) { w' with tape := W.tape } by
   obtain ⟨ds', gs', before', pr, pa, pv, k1, k2, k3, k4, k5, k6⟩ := hpost
   exact ⟨ds', gs', before', pr, pa, pv, k1, k2.of_heap (by rfl), k3.of_heap (by rfl), k4.of_heap (by rfl), k5, fun h => by cases h⟩
 have hb : Below W.heap.size W { w' with tape := W.tape } := ⟨hb0.os, rfl, hb0.output, hb0.size, hb0.block⟩
 have s1 := Below.trod laidOut rowed (of_decide_eq_true (by kernel_rfl)) t1 hb (fun x hx => hlt x (by simp [hx]))
 simp only [List.append_nil, List.nil_append] at hW'
 refine ⟨_, _, _, [], [] ++ (p1 ++ []), [], hW', ?_, ?_, ?_, hb.frame _, fun h => by cases h⟩
 · exact trodAll_mk1 (shut_bool Tryz.underlying4 true)
 · exact trodAll_cons_mk (shut_int Tryz.underlying3 wa) (trodAll_cons_mk s1 trodAll_mk0)
 · rfl
theorem proved : Rows.MappedSaid :=
 OpenClaim.holds_of_wide_leaving 3 Tryz.f3 rfl rfl rfl rfl rfl rfl rfl ⟨rfl, rfl, rfl, rfl, rfl⟩ rfl rfl rfl rfl rfl (by kernel_rfl) Tryz.func3 (by kernel_rfl)
   (of_decide_eq_true (by kernel_rfl)) (by unfold Func.isWrapper; first | (rw [if_pos (by decide +kernel)]; kernel_rfl) | (rw [if_neg (by decide +kernel)]; exact ⟨rfl, rfl⟩))
   (fun os started H enc _ => lifted os started H enc)
end Go.Proofs.YtddcbeeldjjmeaaGreat.mapped
