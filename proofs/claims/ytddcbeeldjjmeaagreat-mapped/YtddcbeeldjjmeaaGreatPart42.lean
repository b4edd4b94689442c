/- MAPPED IN COMPANY: from its first step to its last. -/
import Derived.Test.YtddcbeeldjjmeaaGreatPart40
import Derived.Test.YtddcbeeldjjmeaaGreatPart41
import Derived.Test.YtddcbeeldjjmeaaGreatPart10
namespace Go.Proofs.YtddcbeeldjjmeaaGreat
open Go Go.Conc Go.Eq Go.Nest Go.RowKit Go.Conc.Lib Go.ConcR.Gen Go.ConcN.Gen
open Go.ConcR (DC0 WgAt)
open Go.ConcN (WgLive)
set_option linter.unusedVariables false
set_option linter.unusedSimpArgs false
@[reducible] def envMap : Env:= envR Tryz.prog fnsM 0
@[reducible] def runsMap : @Runs envMap:= @runsOf envMap outsM orcsM
theorem mainC_own (c : Cfg) (own : Perm) (h : MainC c) : MainC { c with own:= own }:= ⟨h.1, ⟨h.2.deaf, h.2.cur, h.2.pend, h.2.kids, h.2.ub⟩⟩
set_option maxRecDepth 20000 in
theorem mapped_good {W u0 : World} {π0 : Ren} {c0 : Int} {sv : Value} {ps : List (Int × Int × Int)}
   (hW : @WRel envMap π0 u0 W) (hsz : u0.heap.size = W.heap.size) (hsv : @VRel envMap π0 sv sv) (hc : I64 c0) (hps : ps.length <= 5864062014690) (hI : ∀ x, x ∈ ps -> I64 x.1 /\ I64 x.2.1 /\ I64 x.2.2)
   (hlt : ∀ ad n c, sv = .slice (some ad) n c -> ad.block < u0.heap.size) (hS : ScAt u0 sv ps)
   (hkeep : ∀ π u' w, @WRel envMap π u' w -> π0.le π -> (∀ k, k < u0.heap.size -> u'.heap[k]? = u0.heap[k]?) -> ∀ k x, π0 x = some k -> k < W.heap.size -> w.heap[k]? = W.heap[k]?) :
   ∃ N last ou w' t', runNT Tryz.prog (N + 1) (solo (Eq.live (Frame.enter Tryz.prog 3 #[.int .i64 c0, sv] .normal) []) W) #[] = (.ended ou w', t') /\
     runN Tryz.prog N (solo (Eq.live (Frame.enter Tryz.prog 3 #[.int .i64 c0, sv] .normal) []) W) = .next last /\ step Tryz.prog last = .ended ou w' /\
     Conc.Good Tryz.prog (fun v w' => v = .bool true /\ Below W.heap.size W.blind w'.blind) last ou w' t':= by
 letI : Env:= envMap
 letI : Runs:= runsMap
 have X : Setup Tryz.prog fnsM outsM orcsM:= setup_of
 have hfit : @BodiesOk envMap (@plainRuns envMap) Tryz.prog /\ @FnsOk envMap Tryz.prog /\ @POk envMap Tryz.prog:= fit_all (low:= 0) fnsM_fit zerosM_fit (by rw [globsM_fit]; exact Nat.le_refl 0)
 have hO : Answers (OrOrc SealedOrc (CallsOrc Tryz.prog)):= ⟨fun _ _ _ _ h => .inl h, fun _ _ _ _ h => .inr h⟩
 have hs : ∀ b, ¬ Env.sealed b:= fun _ h => h
 have hb : BodiesOk Tryz.prog:= bodies_okO X hfit.1 outsM_fit
 have hL:= mapped_runs X hO hc hps hI hlt hS
 have hargs : VsRel π0 #[.int .i64 c0, sv] #[.int .i64 c0, sv]:= ((VsRel.empty π0).push (.int _ _)).push hsv
 refine script_runs (ty:= link.tWg) (o:= fun a => a.block < W.heap.size) (r:= fun _ => False) (by rintro a (h | h); exact h; exact h.elim) ?_
 refine LSc.scriptF (C:= MainC) hs hfit.2.2 hfit.2.1 hb hfit.1 (or_okF (sealed_oracleF rfl hs) (calls_okF hs hfit mainC_own)) mainC_own (c00:= allCfg W) (π00:= π0) (w00:= W) (fun a h => h) ?_ hL π0 _ W (allCfg W)
   ⟨_, _, _, _, rfl, rfl, FrRel.enter hb ((X.runs _).2 (.inr (by decide))) hargs, .base⟩ hW (fun b b' e a ha => .inl (by show a.block < W.heap.size; rw [ha]; exact (hW.size e).2)) (snug_all W) ⟨rfl, ⟨rfl, rfl, rfl, rfl, rfl⟩⟩ (Fw.refl _ _ _)
 intro π f f' u w c hfr hst W' H S hC hF
 obtain ⟨a, k, rfl, hd, hsize, h4, hold⟩:= hst
 have hfn : f'.fn = 3:= hfr.fn.symm
 have hm : f'.mode = .returning:= hfr.mode.symm
 have hdf : f'.defers = []:= by
   have h:= hfr.defers
   rw [show ({ bMp.at a k with mode:= .returning } : Frame).defers = a.defers from rfl, hd] at h
   generalize f'.defers = l at h
   cases h; rfl
 have ht : f'.tmps.getD 4 undef = .bool true:= by
   have h:= hfr.tmps.getD 4 (undef_rel π)
   rw [show ({ bMp.at a k with mode:= .returning } : Frame).tmps.getD 4 undef = Value.bool true by rw [<- h4]; simp [tm, Frame.at, hsize, Array.getD]] at h
   generalize f'.tmps.getD 4 undef = l at h
   cases h; rfl
 have hr : Nest.Returns Tryz.prog (.bool true) (Eq.live f' []):= returns_of hm hdf hfr.kind' (by rw [hfn]; exact Tryz.func3) (by
   show results _ f'.tmps = _
   have ht2 : f'.tmps[4]?.getD undef = Value.bool true:= by rw [<- ht]; simp [Array.getD_eq_getD_getElem?]
   simp [results, Tryz.results3, ht2]
   rfl) (by rw [hfn]; kernel_rfl)
 refine ScS.fin rfl rfl hC.1 hC.2.cur hC.2.deaf fun w₁ hrel => ⟨.bool true, hr, fun d => ⟨rfl, ?_⟩⟩
 have F1:= hF.rely hrel
 show Below W.heap.size W.blind w₁.blind
 exact fw_below F1 (hkeep π u w₁ (W'.held H hrel) F1.le hold)
end Go.Proofs.YtddcbeeldjjmeaaGreat
