/- COMMIT, the pieces on either side of what is answered. -/
import Derived.Test.YtddcbeeldjjmeaaGreatPart35
import Derived.Test.YtddcbeeldjjmeaaGreatPart36
namespace Go.Proofs.YtddcbeeldjjmeaaGreat
open Go Go.RowKit Go.Nest Go.Tm Go.Proofs.YtddcbeeldjjmeaaGreat.Tw Go.Maps Go.Sort Go.Shelf Go.Eq
set_option linter.unusedVariables false
set_option linter.unusedSimpArgs false
theorem Gw.on {K : Nat -> Prop} {w w' : World} (h : Gw K w w') (t : Nat -> Question -> Nat) : Gw K w (World.on w' t):= ⟨h.os, h.size, h.block⟩
theorem Gw.on' {K : Nat -> Prop} {w w' : World} (h : Gw K w w') (t : Nat -> Question -> Nat) : Gw K (World.on w t) w':= ⟨h.os, h.size, h.block⟩
theorem gw_on {K : Nat -> Prop} (w : World) (t : Nat -> Question -> Nat) : Gw K w (World.on w t):= ⟨rfl, Nat.le_refl _, fun _ _ _ => rfl⟩
theorem TAt.on {dg : DG} {w : World} {t : T ByteArray} {b : Nat} (h : TAt dg w t b) (tp : Nat -> Question -> Nat) : TAt dg (World.on w tp) t b:= Gw.nd (K:= fun _ => False) (gw_on w tp) (fun _ h => h.elim) h
theorem StoreAt.on {w : World} {s bb cb vb : Nat} {wd nw : Int} (h : StoreAt w s wd bb cb vb nw) (tp : Nat -> Question -> Nat) : StoreAt (World.on w tp) s wd bb cb vb nw:= h
noncomputable abbrev cmC : Code:= bodyOf Tryz.f19
set_option maxRecDepth 20000 in
theorem cm_r0 {a : Act} {w : World} {s : Nat} (hs : a.tmps.size = 53) (hd : a.defers = []) (h0 : tm a 0 = .pointer (some ⟨s, 0, none⟩)) :
   (cL cmC).wp Tryz.prog (onlyN fun a' w' => w' = w /\ a'.tmps.size = 53 /\ a'.defers = [] /\ tm a' 0 = .pointer (some ⟨s, 0, none⟩)) a w:= by
 rw [act_out hs hd, show (List.range 53).map (tm a) = [tm a 0, tm a 1, tm a 2, tm a 3, tm a 4, tm a 5, tm a 6, tm a 7, tm a 8, tm a 9, tm a 10, tm a 11, tm a 12, tm a 13, tm a 14, tm a 15, tm a 16, tm a 17, tm a 18, tm a 19, tm a 20, tm a 21, tm a 22, tm a 23, tm a 24, tm a 25, tm a 26, tm a 27, tm a 28, tm a 29, tm a 30, tm a 31, tm a 32, tm a 33, tm a 34, tm a 35, tm a 36, tm a 37, tm a 38, tm a 39, tm a 40, tm a 41, tm a 42, tm a 43, tm a 44, tm a 45, tm a 46, tm a 47, tm a 48, tm a 49, tm a 50, tm a 51, tm a 52] from rfl, h0]
 simp only [cmC, cL, cR, bodyOf, Tryz.f19, Option.getD_some]
 go_wp2_with fail
 exact ⟨rfl, rfl, rfl, rfl⟩
set_option maxRecDepth 20000 in
theorem cm_r1 {a : Act} {w : World} {s : Nat} (hs : a.tmps.size = 53) (hd : a.defers = []) (h0 : tm a 0 = .pointer (some ⟨s, 0, none⟩)) :
   (cL (cR cmC)).wp Tryz.prog (onlyN fun a' w' => w' = w /\ a'.tmps.size = 53 /\ a'.defers = [] /\ tm a' 0 = .pointer (some ⟨s, 0, none⟩)) a w:= by
 rw [act_out hs hd, show (List.range 53).map (tm a) = [tm a 0, tm a 1, tm a 2, tm a 3, tm a 4, tm a 5, tm a 6, tm a 7, tm a 8, tm a 9, tm a 10, tm a 11, tm a 12, tm a 13, tm a 14, tm a 15, tm a 16, tm a 17, tm a 18, tm a 19, tm a 20, tm a 21, tm a 22, tm a 23, tm a 24, tm a 25, tm a 26, tm a 27, tm a 28, tm a 29, tm a 30, tm a 31, tm a 32, tm a 33, tm a 34, tm a 35, tm a 36, tm a 37, tm a 38, tm a 39, tm a 40, tm a 41, tm a 42, tm a 43, tm a 44, tm a 45, tm a 46, tm a 47, tm a 48, tm a 49, tm a 50, tm a 51, tm a 52] from rfl, h0]
 simp only [cmC, cL, cR, bodyOf, Tryz.f19, Option.getD_some]
 go_wp2_with fail
 exact ⟨rfl, rfl, rfl, rfl⟩
set_option maxRecDepth 20000 in
theorem cm_r3 {a : Act} {w : World} {s bb cb vb : Nat} {wd nw : Int} (hS : StoreAt w s wd bb cb vb nw) (hs : a.tmps.size = 53) (hd : a.defers = []) (h0 : tm a 0 = .pointer (some ⟨s, 0, none⟩)) :
   (cL (cR (cR cmC))).wp Tryz.prog (onlyN fun a' w' => w' = w /\ a'.tmps.size = 53 /\ a'.defers = [] /\ tm a' 0 = .pointer (some ⟨s, 0, none⟩) /\ tm a' 5 = .pointer (some ⟨bb, 0, none⟩)) a w:= by
 obtain ⟨c0, c1, c2, c3, c4⟩:= hS.cells
 simp only [ptr] at c1
 rw [act_out hs hd, show (List.range 53).map (tm a) = [tm a 0, tm a 1, tm a 2, tm a 3, tm a 4, tm a 5, tm a 6, tm a 7, tm a 8, tm a 9, tm a 10, tm a 11, tm a 12, tm a 13, tm a 14, tm a 15, tm a 16, tm a 17, tm a 18, tm a 19, tm a 20, tm a 21, tm a 22, tm a 23, tm a 24, tm a 25, tm a 26, tm a 27, tm a 28, tm a 29, tm a 30, tm a 31, tm a 32, tm a 33, tm a 34, tm a 35, tm a 36, tm a 37, tm a 38, tm a 39, tm a 40, tm a 41, tm a 42, tm a 43, tm a 44, tm a 45, tm a 46, tm a 47, tm a 48, tm a 49, tm a 50, tm a 51, tm a 52] from rfl, h0]
 simp only [cmC, cL, cR, bodyOf, Tryz.f19, Option.getD_some]
 go_wp2_with fail
 exact ⟨rfl, rfl, rfl, rfl, rfl⟩
set_option maxRecDepth 20000 in
theorem cm_r10 {a : Act} {w : World} {s bb cb vb : Nat} {wd nw : Int} {kd d : Int} {p v : ByteArray} {l r : Option Addr} {sl : Bool} (hS : StoreAt w s wd bb cb vb nw) (hN : NodeAt ndT w bb kd p v l r d sl) (hs : a.tmps.size = 53) (hd : a.defers = []) (h0 : tm a 0 = .pointer (some ⟨s, 0, none⟩)) :
   (cL (cR (cR (cR (cR (cR cmC)))))).wp Tryz.prog (onlyN fun a' w' => (∃ n, w' = w.drewN n) /\ a'.tmps.size = 53 /\ a'.defers = [] /\ tm a' 2 = .int .i64 nw /\ tm a' 3 = .int .i64 d /\ tm a' 4 = .int .i64 0) a w:= by
 obtain ⟨c0, c1, c2, c3, c4⟩:= hS.cells
 simp only [ptr] at c1
 have c1' : w.drew.cell? ⟨s, 1, none⟩ = some (.pointer (some ⟨bb, 0, none⟩)):= c1
 have c4' : w.drew.cell? ⟨s, 4, none⟩ = some (.int .i64 nw):= c4
 have hdg : Calls Tryz.prog 27 #[.pointer (some ⟨bb, 0, none⟩)] w.drew fun e w' => e = .returned (.int .i64 d) /\ w' = w.drew:= digest_any (t:= .empty) (w:= w.drew) hN
 rw [act_out hs hd, show (List.range 53).map (tm a) = [tm a 0, tm a 1, tm a 2, tm a 3, tm a 4, tm a 5, tm a 6, tm a 7, tm a 8, tm a 9, tm a 10, tm a 11, tm a 12, tm a 13, tm a 14, tm a 15, tm a 16, tm a 17, tm a 18, tm a 19, tm a 20, tm a 21, tm a 22, tm a 23, tm a 24, tm a 25, tm a 26, tm a 27, tm a 28, tm a 29, tm a 30, tm a 31, tm a 32, tm a 33, tm a 34, tm a 35, tm a 36, tm a 37, tm a 38, tm a 39, tm a 40, tm a 41, tm a 42, tm a 43, tm a 44, tm a 45, tm a 46, tm a 47, tm a 48, tm a 49, tm a 50, tm a 51, tm a 52] from rfl, h0]
 simp only [cmC, cL, cR, bodyOf, Tryz.f19, Option.getD_some]
 go_region_held3 (fun w' => w'.cell? ⟨s, 1, none⟩ = some (.pointer (some ⟨bb, 0, none⟩)) /\ w'.cell? ⟨s, 4, none⟩ = some (.int .i64 nw)) (first | go_keep | exact ⟨c1', c4'⟩)
   (first | (go_at_call 27; refine hdg.mono ?_; rintro e w2 ⟨rfl, hw2⟩; subst hw2))
 go_wp2_with fail
 exact ⟨⟨1, rfl⟩, rfl, rfl, rfl, rfl, rfl⟩
end Go.Proofs.YtddcbeeldjjmeaaGreat
namespace Go.Proofs.YtddcbeeldjjmeaaGreat
open Go Go.Conc Go.RowKit Go.Nest Go.Tm Go.Proofs.YtddcbeeldjjmeaaGreat.Tw Go.Maps Go.Sort Go.Shelf Go.Eq
set_option linter.unusedVariables false
set_option linter.unusedSimpArgs false
def Committed (wd : Nat) (u u' : World) (s cb vb m : Nat) (nw : Int) (G : Lit -> Option Value) (now : KV) (x : Value) : Prop :=
 ∃ r t', x = .tuple #[.int .i64 (nw + 1), .int .i64 (Tr.dig (dgw wd) t'.tr), .int .i64 0] /\ StoreAt u' s wd r cb vb (nw + 1) /\ MapAt Tryz.prog strT u' cb 0 (fun _ => none) /\ MapAt Tryz.prog intT u' vb (m + 1) (upd G (.int .i64 (nw + 1)) (some (.pointer (ptr r)))) /\
   Sd ndT (dgw wd) All u' t'.tr r /\ Rep now.bits t' /\ Gw (fun k => k = s \/ k = cb \/ k = vb) u u'
def opsOf : Code -> Array Oper
 | .region _ ops _ => ops
 | _ => #[]
structure Answers [Env] (Orc : Oracle) : Prop where
 sealed : ∀ f args u Post, SealedOrc f args u Post -> Orc f args u Post
 calls : ∀ f args u Post, CallsOrc Tryz.prog f args u Post -> Orc f args u Post
section
variable [Env] [Runs] {Orc : Oracle} {Stop : Frame -> World -> Prop}
set_option maxRecDepth 20000 in
set_option maxHeartbeats 400000 in
theorem commit_runs (X : Setup Tryz.prog fnsM outsM orcsM) (hO : Answers Orc) {u : World} {s bb cb vb n m wd : Nat} {nw : Int} {F G : Lit -> Option Value} {B now : KV} {t : T ByteArray}
   (hS : StoreAt u s wd bb cb vb nw) (hM : MapAt Tryz.prog strT u cb n F) (hn : n <= 8000000000000) (hV : MapAt Tryz.prog intT u vb m G) (hm : m < 1000000000000000) (h1 : s ≠ cb) (h2 : s ≠ vb) (h3 : cb ≠ vb) (hn0 : 0 <= nw) (hn1 : nw < 1000000000000000)
   (hT : TAt (dgw wd) u t bb) (hR : Rep B.bits t) (hB : Row B) (hC : Chg F B now) (hN : Row now) (hwd : wd <= 32) :
   RunsTo Tryz.prog Orc Stop 19 #[.pointer (some ⟨s, 0, none⟩)] u (fun x u' => Committed wd u u' s cb vb m nw G now x):= by
 intro c cs hmode K
 rw [enter_at _ Tryz.func19 (show Tryz.f19.body = some cmC from rfl)]
 generalize ha : ({ tmps:= #[Value.pointer (some ⟨s, 0, none⟩)] ++ Array.replicate (Tryz.f19.ntmps - #[Value.pointer (some ⟨s, 0, none⟩)].size) undef, defers:= [] } : Act) = a
 have a1 : a.tmps.size = 53:= by rw [<- ha]; simp [Tryz.ntmps19]
 have a2 : a.defers = []:= by rw [<- ha]
 have a3 : tm a 0 = .pointer (some ⟨s, 0, none⟩):= by rw [<- ha]; simp [tm]
 clear ha
 show LSc _ _ _ (Conc.G ((base 19).at a [.code cmC]) (c :: cs)) u
 refine LSc.c_seq (x:= cL cmC) (y:= cR cmC) ?_
 refine LSc.norm (fun a' u' => a'.tmps.size = 53 /\ a'.defers = [] /\ tm a' 0 = .pointer (some ⟨s, 0, none⟩) /\ ∃ t, u' = World.on u t) (X.fit (by kernel_rfl)) (fun t => Code.wp_mono ?_ (cm_r0 (w:= World.on u t) a1 a2 a3)) (fun a' u' t h => ⟨h.1, h.2.1, h.2.2.1, t, by obtain ⟨t', e⟩:= h.2.2.2; rw [e]; rfl⟩) ?_
 . rintro e a' w' h
   cases e <;> first | exact h.elim | exact ⟨h.2.1, h.2.2.1, h.2.2.2, t, h.1⟩
 rintro a u1 ⟨a1, a2, a3, t1, rfl⟩
 refine LSc.c_seq (x:= cL (cR cmC)) (y:= cR (cR cmC)) ?_
 refine LSc.norm (fun a' u' => a'.tmps.size = 53 /\ a'.defers = [] /\ tm a' 0 = .pointer (some ⟨s, 0, none⟩) /\ ∃ t, u' = World.on u t) (X.fit (by kernel_rfl)) (fun t => Code.wp_mono ?_ (cm_r1 (w:= World.on u t) a1 a2 a3)) (fun a' u' t h => ⟨h.1, h.2.1, h.2.2.1, t, by obtain ⟨t', e⟩:= h.2.2.2; rw [e]; rfl⟩) ?_
 . rintro e a' w' h
   cases e <;> first | exact h.elim | exact ⟨h.2.1, h.2.2.1, h.2.2.2, t, h.1⟩
 rintro a u1 ⟨a1, a2, a3, t2, rfl⟩
 refine LSc.c_seq (x:= cL (cR (cR cmC))) (y:= cR (cR (cR cmC))) ?_
 refine LSc.norm (fun a' u' => a'.tmps.size = 53 /\ a'.defers = [] /\ tm a' 0 = .pointer (some ⟨s, 0, none⟩) /\ tm a' 5 = .pointer (some ⟨bb, 0, none⟩) /\ ∃ t, u' = World.on u t) (X.fit (by kernel_rfl)) (fun t => Code.wp_mono ?_ (cm_r3 (w:= World.on u t) (hS.on t) a1 a2 a3)) (fun a' u' t h => ⟨h.1, h.2.1, h.2.2.1, h.2.2.2.1, t, by obtain ⟨t', e⟩:= h.2.2.2.2; rw [e]; rfl⟩) ?_
 . rintro e a' w' h
   cases e <;> first | exact h.elim | exact ⟨h.2.1, h.2.2.1, h.2.2.2.1, h.2.2.2.2, t, h.1⟩
 rintro a u1 ⟨a1, a2, a3, a5, t3, rfl⟩
 refine LSc.c_seq (x:= cL (cR (cR (cR cmC)))) (y:= cR (cR (cR (cR cmC)))) ?_
 refine LSc.norm (fun a' u' => a'.tmps.size = 53 /\ a'.defers = [] /\ tm a' 0 = .pointer (some ⟨s, 0, none⟩) /\ (∃ b t', tm a' 5 = .pointer (some ⟨b, 0, none⟩) /\ TAt (dgw wd) u' t' b /\ Rep now.bits t') /\ Gw (fun _ => False) u u') (X.fit (by kernel_rfl))
   (fun t => Code.wp_mono ?_ (cm_loop (w:= World.on u t) a1 a2 a3 a5 (hS.on t) (hM.same rfl) hn (hT.on t) hR hB hC hN)) (fun a' u' t h => ⟨h.1, h.2.1, h.2.2.1, by obtain ⟨b, t', k1, k2, k3⟩:= h.2.2.2.1; exact ⟨b, t', k1, k2.on t, k3⟩, h.2.2.2.2.on t⟩) ?_
 . rintro e a' w' h
   cases e <;> first | exact h.elim | exact ⟨h.1, h.2.1, h.2.2.1, h.2.2.2.1, (Gw.below (K:= fun _ => False) h.2.2.2.2).on' _⟩
 rintro a u1 ⟨a1, a2, a3, ⟨b, t', a5, hT', hR'⟩, hG1⟩
 have hsl:= hS.lt
 have hS1 : StoreAt u1 s wd bb cb vb nw:= hS.same (hG1.block s hsl (fun h => h))
 have hM1:= hM.same (hG1.block cb hM.lt (fun h => h))
 have hV1:= hV.same (hG1.block vb hV.lt (fun h => h))
 obtain ⟨d0, d1, d2, d3, d4⟩:= hS1.cells
 refine LSc.c_seq (x:= cL (cR (cR (cR (cR cmC))))) (y:= cR (cR (cR (cR (cR cmC))))) ?_
 refine LSc.c_region (ops:= opsOf (cL (cR (cR (cR (cR cmC)))))) ?_
 show LSc _ _ _ (Conc.G (Frame.at _ _ (.inRegion _ [0, 1, 2, 3, 4, 5, 6, 7] :: _)) _) _
 refine LSc.mv 36 (.pointer (some ⟨s, 0, none⟩)) (.tmp 0) rfl (X.free (by rfl)) rfl rfl rfl (.inl rfl) (by rw [tm_eval]; exact a3) ?_
 refine LSc.mv 37 (.pointer (some ⟨b, 0, none⟩)) (.tmp 5) rfl (X.free (by rfl)) rfl rfl rfl (.inl rfl) (by rw [tm_eval, tm_ne (by decide)]; exact a5) ?_
 refine LSc.mv 38 (.pointer (some ⟨s, 0, none⟩)) (.tmp 0) rfl (X.free (by rfl)) rfl rfl rfl (.inl rfl) (by rw [tm_eval, tm_ne (by decide), tm_ne (by decide)]; exact a3) ?_
 refine LSc.nilc 39 (.tmp 38) ⟨s, 0, none⟩ rfl (X.free (by rfl)) rfl rfl rfl rfl (by rw [tm_eval, tm_eq (by simp [Eq.size_put, a1])]) ?_
 refine LSc.fld 40 (.tmp 39) stT 0 ⟨s, 0, none⟩ ⟨s, 0, none⟩ rfl (X.free (by rfl)) rfl rfl rfl rfl (by rw [tm_eval, tm_eq (by simp [Eq.size_put, a1])]) (by intro w; simp [go_sem]) ?_
 refine LSc.ld 41 (.tmp 40) intT ⟨s, 0, none⟩ (.int .i64 wd) rfl (X.free (by rfl)) rfl rfl rfl rfl (by rw [tm_eval, tm_eq (by simp [Eq.size_put, a1])]) (by intro t'; have d0' : (World.on u1 t').cell? ⟨s, 0, none⟩ = some (.int .i64 wd):= d0; simp [go_sem, d0']) ?_
 refine LSc.callAt 42 (args:= #[.tmp 37, .tmp 41]) (vs:= #[.pointer (ptr b), .int .i64 wd]) rfl rfl rfl rfl rfl Tryz.func37 (by rfl) rfl (by intro x hx; simp at hx; rcases hx with rfl | rfl <;> trivial)
   (by simp [tm_eval, tm_eq, tm_ne, Eq.size_put, a1, ptr]) (hO.sealed _ _ _ _ ⟨rfl, wd, b, t'.tr, hwd, hN.wf hR', rfl, hT', rfl⟩) ?_
 rintro x u2 ⟨r, rfl, hGr, hSd⟩
 have hG2 : Gw (fun _ => False) u1 u2:= Gw.grew hGr
 have hS2 : StoreAt u2 s wd bb cb vb nw:= hS1.same (hG2.block s hS1.lt (fun h => h))
 have hM2:= hM1.same (hG2.block cb hM1.lt (fun h => h))
 have hV2:= hV1.same (hG2.block vb hV1.lt (fun h => h))
 refine LSc.callAt 43 (args:= #[.tmp 36, .tmp 42]) (vs:= #[.pointer (some ⟨s, 0, none⟩), .pointer (ptr r)]) rfl rfl rfl rfl rfl Tryz.func36 (by rfl) rfl (by intro x hx; simp at hx; rcases hx with rfl | rfl <;> trivial)
   (by simp [tm_eval, tm_eq, tm_ne, Eq.size_put, a1])
   (Post:= fun x u' => StoreAt u' s wd r cb vb (nw + 1) /\ MapAt Tryz.prog strT u' cb 0 (fun _ => none) /\ MapAt Tryz.prog intT u' vb (m + 1) (upd G (.int .i64 (nw + 1)) (some (.pointer (ptr r)))) /\ Gw (fun k => k = s \/ k = cb \/ k = vb) u2 u')
   (hO.calls _ _ _ _ ⟨(X.env.fn _).2 (by decide), fun t => (keep_any (x:= r) (hS2.on t) (hM2.same rfl) (hV2.same rfl) hm h1 h2 h3 hn0 hn1).mono ?_, fun v w t h => ⟨h.1, h.2.1.same rfl, h.2.2.1.same rfl, h.2.2.2.on t⟩⟩) ?_
 . rintro e w' ⟨rfl, k1, k2, k3, k4⟩
   exact ⟨_, rfl, k1, k2, k3, (Gw.kept k4).on' _⟩
 rintro x u3 ⟨hS3, hM3, hV3, hG3⟩
 have hno : ∀ k, (k = s \/ k = cb \/ k = vb) -> NoNode u2 k:= by
   rintro k (rfl | rfl | rfl)
   . exact hS2.noNode
   . exact MapAt.noNode hM2
   . exact MapAt.noNode hV2
 have hSd3 : Sd ndT (dgw wd) All u3 t'.tr r:= hG3.sd hno hSd
 obtain ⟨lr, rr, hNr⟩:= sd_root hSd3
 refine LSc.c_rend ?_
 refine LSc.c_seq (x:= cL (cR (cR (cR (cR (cR cmC)))))) (y:= cR (cR (cR (cR (cR (cR cmC)))))) ?_
 refine LSc.norm (fun a' u' => a'.defers = [] /\ tm a' 2 = .int .i64 (nw + 1) /\ tm a' 3 = .int .i64 (Tr.dig (dgw wd) t'.tr) /\ tm a' 4 = .int .i64 0 /\ Gw (fun _ => False) u3 u') (X.fit (by kernel_rfl))
   (fun t => Code.wp_mono ?_ (cm_r10 (w:= World.on u3 t) (hS3.on t) (Gw.node (K:= fun _ => False) (gw_on u3 t) (fun _ h => h.elim) hNr) ?_ ?_ ?_)) (fun a' u' t h => ⟨h.1, h.2.1, h.2.2.1, h.2.2.2.1, h.2.2.2.2.on t⟩) ?_
 . rintro e a' w' h
   cases e <;> first | exact h.elim | skip
   obtain ⟨⟨k, rfl⟩, k1, k2, k3, k4, k5⟩:= h
   exact ⟨k2, k3, k4, k5, (Gw.below (w:= World.on u3 t) (below_drewN _ _ k)).on' _⟩
 . simp [Eq.size_put, a1]
 . simp [defers_put, a2]
 . simp [tm_ne, a3]
 rintro a u4 ⟨b2, b3, b4, b5, hG4⟩
 refine LSc.retAt (v:= .tuple #[.int .i64 (nw + 1), .int .i64 (Tr.dig (dgw wd) t'.tr), .int .i64 0]) rfl b2 Tryz.func19 (fun w => ?_) (fun w => ?_) hmode (K _ _ ?_)
 . simp only [tm] at b3 b4 b5
   rw [results_tmp3 (t:= 2) (u:= 3) (v:= 4) rfl]
   simp [b3, b4, b5]
 . simp [results, Tryz.results19]
 . have hGa : Gw (fun k => k = s \/ k = cb \/ k = vb) u u4:= (((hG1.mono (fun _ _ h => h.elim)).trans (hG2.mono (fun _ _ h => h.elim))).trans hG3).trans (hG4.mono (fun _ _ h => h.elim))
   exact ⟨r, t', rfl, hS3.same (hG4.block s hS3.lt (fun h => h)), hM3.same (hG4.block cb hM3.lt (fun h => h)), hV3.same (hG4.block vb hV3.lt (fun h => h)), hG4.sd (fun _ h => h.elim) hSd3, hR', hGa⟩
end
abbrev prsT : TypeId:= 31
abbrev boolT : TypeId:= 4
abbrev lwT : TypeId:= 36
abbrev stpT : TypeId:= 27
structure Tn (base : Nat) (T : TypeId -> Prop) (M : Nat -> Prop) (u u' : World) : Prop where
 os : u'.os = u.os
 size : u.heap.size <= u'.heap.size
 cells : ∀ (k : Nat) (cs : Array Value) (ty : TypeId) (fr : Nat × Nat), u.heap[k]? = some (Obj.cells cs ty fr) -> ¬ T ty -> u'.heap[k]? = some (Obj.cells cs ty fr)
 maps : ∀ (k : Nat) es cl, u.heap[k]? = some (Obj.map es cl) -> ¬ M k -> u'.heap[k]? = some (Obj.map es cl)
 old : ∀ k : Nat, k < base -> u'.heap[k]? = u.heap[k]?
variable {base : Nat} {T : TypeId -> Prop} {M : Nat -> Prop} {u u' u'' : World} {wd : Nat}
theorem Tn.refl (u : World) : Tn base T M u u:= ⟨rfl, Nat.le_refl _, fun _ _ _ _ h _ => h, fun _ _ _ h _ => h, fun _ _ => rfl⟩
theorem Tn.trans (h : Tn base T M u u') (k : Tn base T M u' u'') : Tn base T M u u'' :=
 ⟨k.os.trans h.os, Nat.le_trans h.size k.size, fun i cs ty fr e hn => k.cells i cs ty fr (h.cells i cs ty fr e hn) hn, fun i es cl e hn => k.maps i es cl (h.maps i es cl e hn) hn, fun i hi => (k.old i hi).trans (h.old i hi)⟩
theorem Tn.mono {T' : TypeId -> Prop} {M' : Nat -> Prop} (h : Tn base T M u u') (h1 : ∀ t, T t -> T' t) (h2 : ∀ k, M k -> M' k) : Tn base T' M' u u' :=
 ⟨h.os, h.size, fun i cs ty fr e hn => h.cells i cs ty fr e (fun x => hn (h1 _ x)), fun i es cl e hn => h.maps i es cl e (fun x => hn (h2 _ x)), h.old⟩
theorem Tn.gw {K : Nat -> Prop} (h : Gw K u u') (hb : base <= u.heap.size) (hT : ∀ (k : Nat) cs ty fr, K k -> u.heap[k]? = some (Obj.cells cs ty fr) -> T ty) (hM : ∀ (k : Nat) es cl, K k -> u.heap[k]? = some (Obj.map es cl) -> M k) (hK : ∀ k, K k -> base <= k) : Tn base T M u u' :=
 ⟨h.os, h.size, fun k cs ty fr e hn => (h.block k (Array.getElem?_eq_some_iff.1 e).1 fun hk => hn (hT k cs ty fr hk e)).trans e, fun k es cl e hn => (h.block k (Array.getElem?_eq_some_iff.1 e).1 fun hk => hn (hM k es cl hk e)).trans e,
  fun k hk => h.block k (by omega) fun hh => absurd (hK k hh) (by omega)⟩
theorem Tn.below (h : Below u.heap.size u u') (hb : base <= u.heap.size) : Tn base T M u u':= Tn.gw (Gw.below (K:= fun _ => False) h) hb (fun _ _ _ _ h => h.elim) (fun _ _ _ h => h.elim) fun _ h => h.elim
theorem Tn.on (h : Tn base T M u u') (t : Nat -> Question -> Nat) : Tn base T M u (World.on u' t):= ⟨h.os, h.size, h.cells, h.maps, h.old⟩
theorem Tn.on' (h : Tn base T M u u') (t : Nat -> Question -> Nat) : Tn base T M (World.on u t) u':= ⟨h.os, h.size, h.cells, h.maps, h.old⟩
theorem tn_on (u : World) (t : Nat -> Question -> Nat) : Tn base T M u (World.on u t):= ⟨rfl, Nat.le_refl _, fun _ _ _ _ h _ => h, fun _ _ _ h _ => h, fun _ _ => rfl⟩
theorem Tn.node (h : Tn base T M u u') (hn : ¬ T ndT) {b : Nat} {kd : Int} {p v : ByteArray} {l r : Option Addr} {d : Int} {s : Bool} (hN : NodeAt ndT u b kd p v l r d s) : NodeAt ndT u' b kd p v l r d s:= by
 obtain ⟨fr, e⟩:= hN
 exact ⟨fr, h.cells b _ _ _ e hn⟩
theorem Tn.sd {dg : DG} (h : Tn base T M u u') (hn : ¬ T ndT) : ∀ {t : Tr} {b : Nat}, Sd ndT dg All u t b -> Sd ndT dg All u' t b
 | .branch _ _ _, _, ⟨h1, bl, br, h2, h3, h4⟩ => ⟨h1, bl, br, h.node hn h2, h.sd hn h3, h.sd hn h4⟩
 | .empty, _, ⟨h1, h2⟩ => ⟨h1, h.node hn h2⟩
 | .leaf _ _, _, ⟨h1, h2⟩ => ⟨h1, h.node hn h2⟩
theorem Tn.nd {dg : DG} (h : Tn base T M u u') (hn : ¬ T ndT) : ∀ {t : Tr} {b : Nat}, Nd ndT dg All u t b -> Nd ndT dg All u' t b
 | .branch _ _ _, _, ⟨h1, bl, br, d, s, h2, h3, h4, h5⟩ => ⟨h1, bl, br, d, s, h.node hn h2, h.nd hn h3, h.nd hn h4, fun x => ⟨(h5 x).1, h.sd hn (h5 x).2.1, h.sd hn (h5 x).2.2⟩⟩
 | .empty, _, ⟨h1, d, s, h2, h3⟩ => ⟨h1, d, s, h.node hn h2, h3⟩
 | .leaf _ _, _, ⟨h1, d, s, h2, h3⟩ => ⟨h1, d, s, h.node hn h2, h3⟩
theorem Tn.row (h : Tn base T M u u') {b' : Nat} {e : TypeId} {sz : Nat} {v : Value} {n : Nat} {xs : List Value} (hn : ¬ T e) (hr : u.ownsRow b' e sz v n xs) : u'.ownsRow b' e sz v n xs:= by
 obtain ⟨h1, h2 | ⟨g, cap, cur, rfl, hg, hh, h3⟩⟩:= hr
 . exact ⟨h1, .inl h2⟩
 . exact ⟨h1, .inr ⟨g, cap, cur, rfl, hg, h.cells g _ _ _ hh hn, h3⟩⟩
theorem Tn.store (h : Tn base T M u u') {s bb cb vb : Nat} {w0 nw : Int} (hn : ¬ T stT) (hS : StoreAt u s w0 bb cb vb nw) : StoreAt u' s w0 bb cb vb nw:= h.cells s _ _ _ hS hn
theorem Tn.map (h : Tn base T M u u') {K0 : TypeId} {b n : Nat} {F : Lit -> Option Value} (hn : ¬ M b) (hM : MapAt Tryz.prog K0 u b n F) : MapAt Tryz.prog K0 u' b n F:= by
 have hM2:= hM
 obtain ⟨D, ⟨es, cl, e, _⟩, _⟩:= hM2
 exact hM.same ((h.maps b es cl e hn).trans e.symm)
def LwAt (u : World) (wb s wd : Nat) (vnow vall vroots vgone : Value) : Prop:= u.heap[wb]? = some (.cells #[.pointer (ptr s), .int .i64 wd, vnow, vall, vroots, vgone] lwT (0, 0))
theorem LwAt.cells {wb s : Nat} {vnow vall vroots vgone : Value} (h : LwAt u wb s wd vnow vall vroots vgone) :
   u.cell? ⟨wb, 0, none⟩ = some (.pointer (some ⟨s, 0, none⟩)) /\ u.cell? ⟨wb, 1, none⟩ = some (.int .i64 wd) /\ u.cell? ⟨wb, 2, none⟩ = some vnow /\ u.cell? ⟨wb, 3, none⟩ = some vall /\ u.cell? ⟨wb, 4, none⟩ = some vroots /\ u.cell? ⟨wb, 5, none⟩ = some vgone:= by
 unfold LwAt at h
 refine ⟨?_, ?_, ?_, ?_, ?_, ?_⟩ <;> simp [World.cell?, h, ptr]
theorem LwAt.frozen {wb s : Nat} {vnow vall vroots vgone : Value} (h : LwAt u wb s wd vnow vall vroots vgone) (o : Nat) : u.frozen? ⟨wb, o, none⟩ = false:= by
 unfold LwAt at h
 simp [World.frozen?, h]
theorem LwAt.lt {wb s : Nat} {vnow vall vroots vgone : Value} (h : LwAt u wb s wd vnow vall vroots vgone) : wb < u.heap.size:= (Array.getElem?_eq_some_iff.1 h).1
theorem LwAt.set2 {wb s : Nat} {vnow vall vroots vgone : Value} (h : LwAt u wb s wd vnow vall vroots vgone) (x : Value) : LwAt (u.setCell ⟨wb, 2, none⟩ x) wb s wd x vall vroots vgone:= by
 have hs:= h.lt
 unfold LwAt at h ⊢
 simp only [World.setCell, Array.getElem?_modify, if_true, h]
 simp
theorem LwAt.set3 {wb s : Nat} {vnow vall vroots vgone : Value} (h : LwAt u wb s wd vnow vall vroots vgone) (x : Value) : LwAt (u.setCell ⟨wb, 3, none⟩ x) wb s wd vnow x vroots vgone:= by
 have hs:= h.lt
 unfold LwAt at h ⊢
 simp only [World.setCell, Array.getElem?_modify, if_true, h]
 simp
theorem LwAt.set4 {wb s : Nat} {vnow vall vroots vgone : Value} (h : LwAt u wb s wd vnow vall vroots vgone) (x : Value) : LwAt (u.setCell ⟨wb, 4, none⟩ x) wb s wd vnow vall x vgone:= by
 have hs:= h.lt
 unfold LwAt at h ⊢
 simp only [World.setCell, Array.getElem?_modify, if_true, h]
 simp
theorem LwAt.set5 {wb s : Nat} {vnow vall vroots vgone : Value} (h : LwAt u wb s wd vnow vall vroots vgone) (x : Value) : LwAt (u.setCell ⟨wb, 5, none⟩ x) wb s wd vnow vall vroots x:= by
 have hs:= h.lt
 unfold LwAt at h ⊢
 simp only [World.setCell, Array.getElem?_modify, if_true, h]
 simp
theorem LwAt.tn {wb s : Nat} {vnow vall vroots vgone : Value} (h : LwAt u wb s wd vnow vall vroots vgone) (hb : base <= wb) (o : Nat) (x : Value) : Tn base (· = lwT) (fun _ => False) u (u.setCell ⟨wb, o, none⟩ x):= by
 have hne : ∀ k, k ≠ wb -> (u.setCell ⟨wb, o, none⟩ x).heap[k]? = u.heap[k]?:= fun k hk => Below.heap_setCell _ _ _ _ hk
 refine ⟨rfl, by simp [World.setCell], fun k cs ty fr e hn => ?_, fun k es cl e _ => ?_, fun k hk => hne k (by omega)⟩
 . by_cases hk : k = wb
   . subst hk; unfold LwAt at h; rw [h] at e; cases e; exact absurd rfl hn
   . rw [hne k hk]; exact e
 . by_cases hk : k = wb
   . subst hk; unfold LwAt at h; rw [h] at e; cases e
   . rw [hne k hk]; exact e
def VerAt (u : World) (wd : Nat) (G : Lit -> Option Value) (i : Nat) (l : KV) (r : Int) (g : Bool) : Prop :=
 Row l /\ ((g = true /\ G (.int .i64 (i + 1)) = none) \/ (g = false /\ ∃ x t, G (.int .i64 (i + 1)) = some (.pointer (ptr x)) /\ Sd ndT (dgw wd) All u t.tr x /\ Rep l.bits t /\ r = Tr.dig (dgw wd) t.tr))
structure Lw (base : Nat) (u : World) (wd cnt : Nat) (now : KV) (all : List KV) (roots : List Int) (gone : List Bool) (wb s bb cb vb : Nat) (F G : Lit -> Option Value) (B : KV) (t : Go.Tm.T ByteArray) (vnow vall vroots vgone : Value) (xs : List Value) : Prop where
 lw : LwAt u wb s wd vnow vall vroots vgone
 lo : base <= wb /\ base <= s /\ base <= cb /\ base <= vb
 bound : base <= u.heap.size
 wide : 1 <= wd /\ wd <= 32
 store : StoreAt u s wd bb cb vb all.length
 changes : MapAt Tryz.prog strT u cb cnt F
 versions : MapAt Tryz.prog intT u vb cnt G
 apart : s ≠ cb /\ s ≠ vb /\ cb ≠ vb
 tree : TAt (dgw wd) u t bb
 rep : Rep B.bits t
 rowB : Row B
 rowN : Row now
 chg : Chg F B now
 count : all.length <= cnt /\ cnt <= 5864062014700
 lens : roots.length = all.length /\ gone.length = all.length /\ xs.length = all.length
 rnow : OwnP base u vnow now.prs
 rall : u.ownsRow base prsT 1 vall all.length xs
 rx : ∀ i (h : i < all.length), ∃ v, xs[i]? = some v /\ OwnP base u v all[i].prs
 rroots : u.ownsRow base intT 1 vroots all.length (roots.map (.int .i64))
 rgone : u.ownsRow base boolT 1 vgone all.length (gone.map .bool)
 vers : ∀ i (h : i < all.length), ∃ r g, roots[i]? = some r /\ gone[i]? = some g /\ VerAt u wd G i all[i] r g
 rts : ∀ i (h : i < all.length), ∃ t, Rep all[i].bits t /\ roots[i]? = some (Tr.dig (dgw wd) t.tr)
theorem VerAt.tn {G : Lit -> Option Value} {i : Nat} {l : KV} {r : Int} {g : Bool} (h : VerAt u wd G i l r g) (hT : Tn base T M u u') (hn : ¬ T ndT) : VerAt u' wd G i l r g :=
 ⟨h.1, h.2.imp id fun ⟨h1, x, t, h2, h3, h4⟩ => ⟨h1, x, t, h2, hT.sd hn h3, h4⟩⟩
noncomputable abbrev doC : Code:= bodyOf Tryz.f5
def StpAt (u : World) (ob : Nat) (kd k v : Int) : Prop:= u.heap[ob]? = some (.cells #[.int .i64 kd, .int .i64 k, .int .i64 v] stpT (0, 0))
theorem StpAt.cells {u : World} {ob : Nat} {kd k v : Int} (h : StpAt u ob kd k v) : u.cell? ⟨ob, 0, none⟩ = some (.int .i64 kd) /\ u.cell? ⟨ob, 1, none⟩ = some (.int .i64 k) /\ u.cell? ⟨ob, 2, none⟩ = some (.int .i64 v):= by
 unfold StpAt at h
 refine ⟨?_, ?_, ?_⟩ <;> simp [World.cell?, h]
theorem StpAt.tn {base : Nat} {T : TypeId -> Prop} {M : Nat -> Prop} {u u' : World} {ob : Nat} {kd k v : Int} (h : StpAt u ob kd k v) (hT : Tn base T M u u') (hn : ¬ T stpT) : StpAt u' ob kd k v:= hT.cells ob _ _ _ h hn
def I64 (c : Int) : Prop:= -9223372036854775808 <= c /\ c <= 9223372036854775807
structure Da (a : Act) (wb ob : Nat) : Prop where
 size : a.tmps.size = 228
 defers : a.defers = []
 w : tm a 0 = .pointer (some ⟨wb, 0, none⟩)
 o : tm a 3 = .pointer (some ⟨ob, 0, none⟩)
theorem Da.out {a : Act} {wb ob : Nat} (h : Da a wb ob) : a = ⟨([tm a 0, tm a 1, tm a 2, tm a 3, tm a 4, tm a 5, tm a 6, tm a 7, tm a 8, tm a 9, tm a 10, tm a 11, tm a 12, tm a 13, tm a 14, tm a 15, tm a 16, tm a 17, tm a 18, tm a 19, tm a 20, tm a 21, tm a 22, tm a 23, tm a 24, tm a 25, tm a 26, tm a 27, tm a 28, tm a 29, tm a 30, tm a 31, tm a 32, tm a 33, tm a 34, tm a 35, tm a 36, tm a 37, tm a 38, tm a 39, tm a 40, tm a 41, tm a 42, tm a 43, tm a 44, tm a 45, tm a 46, tm a 47, tm a 48, tm a 49, tm a 50, tm a 51, tm a 52, tm a 53, tm a 54, tm a 55, tm a 56, tm a 57, tm a 58, tm a 59, tm a 60, tm a 61, tm a 62, tm a 63, tm a 64, tm a 65, tm a 66, tm a 67, tm a 68, tm a 69, tm a 70, tm a 71, tm a 72, tm a 73, tm a 74, tm a 75, tm a 76, tm a 77, tm a 78, tm a 79, tm a 80, tm a 81, tm a 82, tm a 83, tm a 84, tm a 85, tm a 86, tm a 87, tm a 88, tm a 89, tm a 90, tm a 91, tm a 92, tm a 93, tm a 94, tm a 95, tm a 96, tm a 97, tm a 98, tm a 99, tm a 100, tm a 101, tm a 102, tm a 103, tm a 104, tm a 105, tm a 106, tm a 107, tm a 108, tm a 109, tm a 110, tm a 111, tm a 112, tm a 113, tm a 114, tm a 115, tm a 116, tm a 117, tm a 118, tm a 119, tm a 120, tm a 121, tm a 122, tm a 123, tm a 124, tm a 125, tm a 126, tm a 127, tm a 128, tm a 129, tm a 130, tm a 131, tm a 132, tm a 133, tm a 134, tm a 135, tm a 136, tm a 137, tm a 138, tm a 139, tm a 140, tm a 141, tm a 142, tm a 143, tm a 144, tm a 145, tm a 146, tm a 147, tm a 148, tm a 149, tm a 150, tm a 151, tm a 152, tm a 153, tm a 154, tm a 155, tm a 156, tm a 157, tm a 158, tm a 159, tm a 160, tm a 161, tm a 162, tm a 163, tm a 164, tm a 165, tm a 166, tm a 167, tm a 168, tm a 169, tm a 170, tm a 171, tm a 172, tm a 173, tm a 174, tm a 175, tm a 176, tm a 177, tm a 178, tm a 179, tm a 180, tm a 181, tm a 182, tm a 183, tm a 184, tm a 185, tm a 186, tm a 187, tm a 188, tm a 189, tm a 190, tm a 191, tm a 192, tm a 193, tm a 194, tm a 195, tm a 196, tm a 197, tm a 198, tm a 199, tm a 200, tm a 201, tm a 202, tm a 203, tm a 204, tm a 205, tm a 206, tm a 207, tm a 208, tm a 209, tm a 210, tm a 211, tm a 212, tm a 213, tm a 214, tm a 215, tm a 216, tm a 217, tm a 218, tm a 219, tm a 220, tm a 221, tm a 222, tm a 223, tm a 224, tm a 225, tm a 226, tm a 227]).toArray, []⟩:= act_out h.size h.defers
set_option maxRecDepth 20000 in
theorem dw_0 {a : Act} {u : World} {wb : Nat} {kd k v : Int} (a1 : a.tmps.size = 228) (a2 : a.defers = []) (a3 : tm a 0 = .pointer (some ⟨wb, 0, none⟩)) (a4 : tm a 1 = .agg #[.int .i64 kd, .int .i64 k, .int .i64 v]) :
   (cL doC).wp Tryz.prog (onlyN fun a' u' => ∃ ob, Da a' wb ob /\ StpAt u' ob kd k v /\ Below u.heap.size u u') a u:= by
 rw [act_out a1 a2, show (List.range 228).map (tm a) = [tm a 0, tm a 1, tm a 2, tm a 3, tm a 4, tm a 5, tm a 6, tm a 7, tm a 8, tm a 9, tm a 10, tm a 11, tm a 12, tm a 13, tm a 14, tm a 15, tm a 16, tm a 17, tm a 18, tm a 19, tm a 20, tm a 21, tm a 22, tm a 23, tm a 24, tm a 25, tm a 26, tm a 27, tm a 28, tm a 29, tm a 30, tm a 31, tm a 32, tm a 33, tm a 34, tm a 35, tm a 36, tm a 37, tm a 38, tm a 39, tm a 40, tm a 41, tm a 42, tm a 43, tm a 44, tm a 45, tm a 46, tm a 47, tm a 48, tm a 49, tm a 50, tm a 51, tm a 52, tm a 53, tm a 54, tm a 55, tm a 56, tm a 57, tm a 58, tm a 59, tm a 60, tm a 61, tm a 62, tm a 63, tm a 64, tm a 65, tm a 66, tm a 67, tm a 68, tm a 69, tm a 70, tm a 71, tm a 72, tm a 73, tm a 74, tm a 75, tm a 76, tm a 77, tm a 78, tm a 79, tm a 80, tm a 81, tm a 82, tm a 83, tm a 84, tm a 85, tm a 86, tm a 87, tm a 88, tm a 89, tm a 90, tm a 91, tm a 92, tm a 93, tm a 94, tm a 95, tm a 96, tm a 97, tm a 98, tm a 99, tm a 100, tm a 101, tm a 102, tm a 103, tm a 104, tm a 105, tm a 106, tm a 107, tm a 108, tm a 109, tm a 110, tm a 111, tm a 112, tm a 113, tm a 114, tm a 115, tm a 116, tm a 117, tm a 118, tm a 119, tm a 120, tm a 121, tm a 122, tm a 123, tm a 124, tm a 125, tm a 126, tm a 127, tm a 128, tm a 129, tm a 130, tm a 131, tm a 132, tm a 133, tm a 134, tm a 135, tm a 136, tm a 137, tm a 138, tm a 139, tm a 140, tm a 141, tm a 142, tm a 143, tm a 144, tm a 145, tm a 146, tm a 147, tm a 148, tm a 149, tm a 150, tm a 151, tm a 152, tm a 153, tm a 154, tm a 155, tm a 156, tm a 157, tm a 158, tm a 159, tm a 160, tm a 161, tm a 162, tm a 163, tm a 164, tm a 165, tm a 166, tm a 167, tm a 168, tm a 169, tm a 170, tm a 171, tm a 172, tm a 173, tm a 174, tm a 175, tm a 176, tm a 177, tm a 178, tm a 179, tm a 180, tm a 181, tm a 182, tm a 183, tm a 184, tm a 185, tm a 186, tm a 187, tm a 188, tm a 189, tm a 190, tm a 191, tm a 192, tm a 193, tm a 194, tm a 195, tm a 196, tm a 197, tm a 198, tm a 199, tm a 200, tm a 201, tm a 202, tm a 203, tm a 204, tm a 205, tm a 206, tm a 207, tm a 208, tm a 209, tm a 210, tm a 211, tm a 212, tm a 213, tm a 214, tm a 215, tm a 216, tm a 217, tm a 218, tm a 219, tm a 220, tm a 221, tm a 222, tm a 223, tm a 224, tm a 225, tm a 226, tm a 227] from rfl, a3, a4]
 simp only [doC, cL, cR, bodyOf, Tryz.f5, Option.getD_some]
 go_wp2_with fail
 exact ⟨u.heap.size, ⟨rfl, rfl, rfl, rfl⟩, heap_alloc_new u _, (Below.refl _ u).alloc (Nat.le_refl _) _⟩
set_option maxRecDepth 20000 in
theorem dw_1 {a : Act} {u : World} {wb ob : Nat} {kd k v : Int} (hA : Da a wb ob) (hS : StpAt u ob kd k v) (hk : I64 k) :
   (cL (cR doC)).wp Tryz.prog (onlyN fun a' u' => Da a' wb ob /\ tm a' 5 = .string (keyN (pickN k 20)) /\ Below u.heap.size u u') a u:= by
 obtain ⟨c0, c1, c2⟩:= hS.cells
 have hkey:= keyL_any k u hk.1 hk.2
 rw [hA.out, hA.w, hA.o]
 simp only [doC, cL, cR, bodyOf, Tryz.f5, Option.getD_some]
 go_wp2_with (go_at_call 7; refine hkey.mono ?_; rintro e u2 ⟨rfl, hB2⟩)
 exact ⟨⟨rfl, rfl, rfl, rfl⟩, rfl, hB2⟩
set_option maxRecDepth 20000 in
theorem dw_2 {a : Act} {u : World} {wb ob : Nat} {kd k v : Int} {key : ByteArray} (hA : Da a wb ob) (h5 : tm a 5 = .string key) (hS : StpAt u ob kd k v) (hk : I64 kd) :
   (cL (cL (cR (cR doC)))).wp Tryz.prog (onlyN fun a' u' => Da a' wb ob /\ tm a' 5 = .string key /\ tm a' 22 = .int .i64 (pickN kd 8) /\ u' = u) a u:= by
 obtain ⟨c0, c1, c2⟩:= hS.cells
 have hp:= pick_any kd 8 u hk.1 hk.2 (by decide) (by decide)
 rw [hA.out, hA.w, hA.o, h5]
 simp only [doC, cL, cR, bodyOf, Tryz.f5, Option.getD_some]
 go_wp2_with (go_at_call 12; refine hp.mono ?_; rintro e u2 ⟨rfl, rfl⟩)
 exact ⟨⟨rfl, rfl, rfl, rfl⟩, rfl, rfl, rfl⟩
noncomputable abbrev dInner : Code:= cB (cR (cL (cR (cR doC))))
noncomputable abbrev dSet : Code:= cT (cR dInner)
noncomputable abbrev dB : Code:= cE (cR dInner)
noncomputable abbrev dDel : Code:= cT (cR dB)
noncomputable abbrev dB2 : Code:= cE (cR dB)
noncomputable abbrev dCom : Code:= cT (cR dB2)
noncomputable abbrev dTail : Code:= cR (cR (cR doC))
set_option maxRecDepth 20000 in
set_option maxHeartbeats 1000000 in
theorem dw_3 {a : Act} {u : World} {wb ob j : Nat} {key : ByteArray} (hA : Da a wb ob) (h5 : tm a 5 = .string key) (h22 : tm a 22 = .int .i64 j) (hj : j < 8) :
   (cL dInner).wp Tryz.prog (onlyN fun a' u' => Da a' wb ob /\ tm a' 5 = .string key /\ tm a' 22 = .int .i64 j /\ tm a' 23 = .bool (decide (j < 4)) /\ u' = u) a u:= by
 have hh : j = 0 \/ j = 1 \/ j = 2 \/ j = 3 \/ j = 4 \/ j = 5 \/ j = 6 \/ j = 7:= by omega
 rcases hh with rfl | rfl | rfl | rfl | rfl | rfl | rfl | rfl <;>
 . rw [hA.out, hA.w, hA.o, h5, h22]
   simp only [dInner, doC, cL, cR, cB, bodyOf, Tryz.f5, Option.getD_some]
   go_wp2_with fail
   exact ⟨⟨rfl, rfl, rfl, rfl⟩, rfl, rfl, rfl, rfl⟩
set_option maxRecDepth 20000 in
set_option maxHeartbeats 1000000 in
theorem dw_7 {a : Act} {u : World} {wb ob s : Nat} {v e0 : Int} {key V : ByteArray} {R : World -> Prop} (hA : Da a wb ob) (h5 : tm a 5 = .string key) (hw0 : u.cell? ⟨wb, 0, none⟩ = some (.pointer (some ⟨s, 0, none⟩))) (ho2 : u.cell? ⟨ob, 2, none⟩ = some (.int .i64 v))
   (hval : ∀ w, Calls Tryz.prog 15 #[.int .i64 v] w fun e w' => e = .returned (.string V) /\ Below w.heap.size w w')
   (hset : ∀ u1, Below u.heap.size u u1 -> Calls Tryz.prog 14 #[.pointer (some ⟨s, 0, none⟩), .string key, .string V] u1 fun e w' => e = .returned (.int .i64 e0) /\ R w' /\ w'.cell? ⟨wb, 0, none⟩ = some (.pointer (some ⟨s, 0, none⟩)) /\ w'.cell? ⟨ob, 2, none⟩ = some (.int .i64 v)) :
   (cL dSet).wp Tryz.prog (onlyN fun a' u' => Da a' wb ob /\ tm a' 5 = .string key /\ tm a' 6 = .int .i64 e0 /\ R u') a u:= by
 have hwl : wb < u.heap.size:= Tw.cell_lt hw0
 have hol : ob < u.heap.size:= Tw.cell_lt ho2
 have d0 : u.drew.cell? ⟨wb, 0, none⟩ = some (.pointer (some ⟨s, 0, none⟩)):= hw0
 have d2 : u.drew.cell? ⟨ob, 2, none⟩ = some (.int .i64 v):= ho2
 rw [hA.out, hA.w, hA.o, h5]
 simp only [dSet, dInner, doC, cL, cR, cB, cT, bodyOf, Tryz.f5, Option.getD_some]
 go_region_held3 (fun w' => w'.cell? ⟨wb, 0, none⟩ = some (.pointer (some ⟨s, 0, none⟩)) /\ w'.cell? ⟨ob, 2, none⟩ = some (.int .i64 v)) (first | go_keep | exact ⟨d0, d2⟩ | exact ⟨e0', e2'⟩ | exact ⟨f0, f2⟩)
   (first
   | (go_at_call 15; refine (hval _).mono ?_; rintro e w2 ⟨rfl, hB2⟩; have hB2' : Below u.heap.size u w2:= below_mono (below_drewN u.heap.size u 1) hB2; have e0':= (hB2'.cell (p:= ⟨wb, 0, none⟩) hwl).trans hw0; have e2':= (hB2'.cell (p:= ⟨ob, 2, none⟩) hol).trans ho2)
   | (go_at_call 14; refine (hset _ hB2').mono ?_; rintro e w3 ⟨rfl, hR, f0, f2⟩))
 all_goals (go_wp2_with fail)
 all_goals exact ⟨⟨rfl, rfl, rfl, rfl⟩, rfl, rfl, hR⟩
set_option maxRecDepth 20000 in
theorem dw_8 {a : Act} {u : World} {wb ob : Nat} {v e0 : Int} {key V : ByteArray} (hA : Da a wb ob) (h5 : tm a 5 = .string key) (h6 : tm a 6 = .int .i64 e0) (ho2 : u.cell? ⟨ob, 2, none⟩ = some (.int .i64 v))
   (hval : ∀ w, Calls Tryz.prog 15 #[.int .i64 v] w fun e w' => e = .returned (.string V) /\ Below w.heap.size w w') (hV : V.size <= 20) :
   (cL (cR dSet)).wp Tryz.prog (onlyN fun a' u' => Da a' wb ob /\ tm a' 5 = .string key /\ tm a' 6 = .int .i64 e0 /\ Below u.heap.size u u') a u:= by
 have hf : decide ((20 : Int) < (V.size : Int)) = false:= decide_eq_false (by omega)
 rw [hA.out, hA.w, hA.o, h5, h6]
 simp only [dSet, dInner, doC, cL, cR, cB, cT, bodyOf, Tryz.f5, Option.getD_some]
 go_wp2_with (go_at_call 15; refine (hval _).mono ?_; rintro e w2 ⟨rfl, hB2⟩)
 exact ⟨⟨rfl, rfl, rfl, rfl⟩, rfl, rfl, hB2⟩
set_option maxRecDepth 20000 in
theorem dw_8' {a : Act} {u : World} {wb ob : Nat} {v e0 : Int} {key V : ByteArray} (hA : Da a wb ob) (h6 : tm a 6 = .int .i64 e0) (ho2 : u.cell? ⟨ob, 2, none⟩ = some (.int .i64 v))
   (hval : ∀ w, Calls Tryz.prog 15 #[.int .i64 v] w fun e w' => e = .returned (.string V) /\ Below w.heap.size w w') (hV : 20 < V.size) :
   (cL (cL (cR dSet))).wp Tryz.prog (onlyN fun a' u' => Da a' wb ob /\ tm a' 6 = .int .i64 e0 /\ tm a' 41 = .bool true /\ Below u.heap.size u u') a u:= by
 have hf : decide ((20 : Int) < (V.size : Int)) = true:= decide_eq_true (by omega)
 rw [hA.out, hA.w, hA.o, h6]
 simp only [dSet, dInner, doC, cL, cR, cB, cT, bodyOf, Tryz.f5, Option.getD_some]
 go_wp2_with (go_at_call 15; refine (hval _).mono ?_; rintro e w2 ⟨rfl, hB2⟩)
 exact ⟨⟨rfl, rfl, rfl, rfl⟩, rfl, by simp [tm, hf], hB2⟩
set_option maxRecDepth 20000 in
theorem dw_9 {a : Act} {u : World} {wb ob : Nat} (hA : Da a wb ob) (h6 : tm a 6 = .int .i64 6) :
   (cL (cT (cR (cL (cR dSet))))).wp Tryz.prog (onlyN fun a' u' => Da a' wb ob /\ tm a' 4 = .bool true /\ u' = u) a u:= by
 rw [hA.out, hA.w, hA.o, h6]
 simp only [dSet, dInner, doC, cL, cR, cB, cT, bodyOf, Tryz.f5, Option.getD_some]
 go_wp2_with fail
 exact ⟨⟨rfl, rfl, rfl, rfl⟩, rfl, rfl⟩
set_option maxRecDepth 20000 in
theorem dw_11 {a : Act} {u : World} {wb ob : Nat} (hA : Da a wb ob) (h6 : tm a 6 = .int .i64 0) :
   (cL (cR (cR (cR dSet)))).wp Tryz.prog (onlyN fun a' u' => Da a' wb ob /\ tm a' 4 = .bool true /\ u' = u) a u:= by
 rw [hA.out, hA.w, hA.o, h6]
 simp only [dSet, dInner, doC, cL, cR, cB, cT, bodyOf, Tryz.f5, Option.getD_some]
 go_wp2_with fail
 exact ⟨⟨rfl, rfl, rfl, rfl⟩, rfl, rfl⟩
end Go.Proofs.YtddcbeeldjjmeaaGreat
