/- A STEP OF THE RIGHT DOES NOT LOOK AT WHAT COMES BEHIND, NOR AT WHO WAITS FOR IT. -/
import Derived.Test.YtddcbeeldjjmeaaGreatPart6
import Derived.Conc.WgGenN3
namespace Go.Eq
open Go
def ext (k : List Item) (f : Frame) : Frame := { f with todo := f.todo ++ k }
theorem ext_nil (f : Frame) : ext [] f = f := by cases f; simp [ext]
theorem ext_eval (k : List Item) (f : Frame) : (ext k f).eval = f.eval := by
 funext x
 cases x <;> rfl
def Waits (f : Frame) : Prop := ∀ k v, (ext k f).finish v = ext k (f.finish v)
def Lifts (P : Program) (m : Bool) (k1 : List Item) (f : Frame) (cs : List Frame) (w : World) (g1 : Goroutine) (w1 : World) (es : Array Event) : Prop :=
 (∃ f1, f1.roundOf = f.roundOf /\ g1 = live (ext k1 f1) cs /\ ∀ k, (f.roundOf ≠ none -> k = []) -> ∀ cs2, stepG P m (live (ext k f) cs2) w = .go (live (ext k f1) cs2) w1 es) ∨
 (∃ f1 f0, f0.roundOf = f.roundOf /\ Waits f0 /\ g1 = live f1 (ext k1 f0 :: cs) /\ ∀ k, (f.roundOf ≠ none -> k = []) -> ∀ cs2, stepG P m (live (ext k f) cs2) w = .go (live f1 (ext k f0 :: cs2)) w1 es) ∨
 (f.roundOf ≠ none /\ ∃ v, (∀ c l, cs = c :: l -> g1 = live (c.finish v) l) /\ ∀ c2 l2, stepG P m (live f (c2 :: l2)) w = .go (live (c2.finish v) l2) w1 es)
section
variable [Env] [Runs] {P : Program} {π : Ren}
omit [Env] [Runs] in
theorem lifts_of {m : Bool} {k1 : List Item} {f f1 : Frame} {cs : List Frame} {w w1 w2 : World} {g1 : Goroutine} {es es2 : Array Event} (hk1 : f.roundOf ≠ none -> k1 = []) (hro : f1.roundOf = f.roundOf) (hst : stepG P m (live (ext k1 f) cs) w = .go g1 w1 es) (h : ∀ k, (f.roundOf ≠ none -> k = []) -> ∀ cs2, stepG P m (live (ext k f) cs2) w = .go (live (ext k f1) cs2) w2 es2) : Lifts P m k1 f cs w g1 w1 es := by
 have h0 := h k1 hk1 cs
 rw [hst] at h0
 cases h0
 exact .inl ⟨f1, hro, rfl, h⟩
omit [Env] [Runs] in
theorem lifts_in {m : Bool} {k1 : List Item} {f f1 f0 : Frame} {cs : List Frame} {w w1 w2 : World} {g1 : Goroutine} {es es2 : Array Event} (hk1 : f.roundOf ≠ none -> k1 = []) (hro : f0.roundOf = f.roundOf) (hW : Waits f0) (hst : stepG P m (live (ext k1 f) cs) w = .go g1 w1 es) (h : ∀ k, (f.roundOf ≠ none -> k = []) -> ∀ cs2, stepG P m (live (ext k f) cs2) w = .go (live f1 (ext k f0 :: cs2)) w2 es2) : Lifts P m k1 f cs w g1 w1 es := by
 have h0 := h k1 hk1 cs
 rw [hst] at h0
 cases h0
 exact .inr (.inl ⟨f1, f0, hro, hW, rfl, h⟩)
omit [Env] [Runs] in
theorem lifts_pop {m : Bool} {k1 : List Item} {f : Frame} {cs : List Frame} {w w1 w2 : World} {g1 : Goroutine} {es es2 : Array Event} {v : Value} (hro : f.roundOf ≠ none) (hk1 : f.roundOf ≠ none -> k1 = []) (hst : stepG P m (live (ext k1 f) cs) w = .go g1 w1 es) (hne : cs ≠ []) (h : ∀ c2 l2, stepG P m (live f (c2 :: l2)) w = .go (live (c2.finish v) l2) w2 es2) : Lifts P m k1 f cs w g1 w1 es := by
 have e := hk1 hro
 subst e
 rw [ext_nil] at hst
 obtain ⟨c, l, rfl⟩ := List.exists_cons_of_ne_nil hne
 have h0 := h c l
 rw [hst] at h0
 cases h0
 exact .inr (.inr ⟨hro, v, fun c' l' e => by cases e; rfl, h⟩)
omit [Env] [Runs] in
theorem exitTo_app {id : Nat} {k : List Item} : ∀ {x t : List Item}, exitTo id x = some t -> exitTo id (x ++ k) = some (t ++ k)
 | [], t, e => by simp [exitTo] at e
 | y :: x, t, e => by
   rw [List.cons_append]
   cases y
   case inBlock id' =>
     simp only [exitTo] at e ⊢
     split at e
     · rename_i h; rw [if_pos h]; cases e; rfl
     · rename_i h; rw [if_neg h]; exact exitTo_app e
   all_goals (simp only [exitTo] at e ⊢; exact exitTo_app e)
omit [Env] [Runs] in
theorem waits_region {f : Frame} {ops : Array Oper} {i : Nat} {rest : List Nat} {t : List Item} (ht : f.todo = .inRegion ops (i :: rest) :: t) : Waits f := fun k v => by
 unfold Frame.finish ext
 simp only [ht, List.cons_append]
omit [Env] [Runs] in
theorem waits_range {f : Frame} {l : Nat} {t : List Item} (ht : f.todo = .inRangeFunc l :: t) : Waits f := fun k v => by
 unfold Frame.finish ext
 simp only [ht, List.cons_append]
omit [Env] [Runs] in
theorem waits_begin {f : Frame} {t : List Item} (ht : f.todo = .beginRound :: t) : Waits f := fun k v => by
 unfold Frame.finish ext
 simp only [ht, List.cons_append]
omit [Env] [Runs] in
theorem finish_round (f : Frame) (v : Value) : (f.finish v).roundOf = f.roundOf := by
 unfold Frame.finish
 split <;> rfl
theorem apply_lifts {m0 m l : Bool} {k1 : List Item} {f0 f0' : Frame} {cs cs' : List Frame} {u w0 w : World} {f f' : Frame} (h : FrRel P π f f') (hr : f.mode = .run) (W : WRel π u w) (T : Tapes u w) {s s' : Sem Next} (hs : SRel P NRel π s s') (hWt : Waits f') (hro : f'.roundOf = f0'.roundOf) (hk1 : f0'.roundOf ≠ none -> k1 = [])
   {g1 g1' : Goroutine} {u0 u1 w1 : World} {es0 es pre pre' : Array Event} (hl : stepG P m0 (live (ext k1 f0) cs) u0 l = .go g1 u1 es0) (hm : ∀ ch, g1.frame.mode ≠ .panicking ch) (hst : stepG P m (live (ext k1 f0') cs') w0 = .go g1' w1 es)
   (hlx : stepG P m0 (live (ext k1 f0) cs) u0 l = GStep.after pre (stepG.apply P l (ext k1 f) cs none s u))
   (hrx : ∀ k2, (f0'.roundOf ≠ none -> k2 = []) -> ∀ cs2, stepG P m (live (ext k2 f0') cs2) w0 = GStep.after pre' (stepG.apply P true (ext k2 f') cs2 none s' w)) (hnc : ∀ k2 d r s k, (ext k2 f').todo ≠ .call d true r s :: k) : Lifts P m k1 f0' cs' w0 g1' w1 es := by
 have hRun := hs.run #[] #[] W T (r := s.run P u) (es' := (s.runT P u #[]).2) (by rw [<- Sem.runT_fst (es := #[])])
 have hkind : ∀ k2, (ext k2 f').kind = .normal := fun _ => h.kind'
 rw [hlx] at hl
 cases hx : s.run P u with
 | halt hh u' =>
   exfalso
   rw [hx] at hRun
   obtain ⟨hmm, -⟩ : Mild hh /\ Idle π u' := hRun
   have e5 : (if l then s.runT P u #[] else (s.run P u, #[])) = (s.run P u, if l then s.events P u #[] else #[]) := by cases l <;> simp
   revert hl
   unfold stepG.apply
   dsimp only
   rw [e5, hx]
   cases hh with
   | panic v =>
     intro hl
     simp only [GStep.after, GStep.go.injEq] at hl
     obtain ⟨rfl, -, -⟩ := hl
     refine hm [{ v, recovered := false }] ?_
     show ((ext k1 f).raise _).mode = _
     have hrl : (ext k1 f).mode = .run := hr
     unfold Frame.raise; rw [hrl]
   | stuck s => intro hl; simp only [GStep.after] at hl; cases hl
   | unsupported y => cases y <;> first | exact hmm.elim | (intro hl; simp only [GStep.after] at hl; cases hl)
   | _ => exact hmm.elim
 | ok n u' =>
   rw [hx] at hRun
   obtain ⟨⟨n', w2, π1, gs, h1, h2, h3, h4, h5⟩, -⟩ := hRun
   cases n <;> cases n' <;> simp only [NRel] at h2
   · rename_i v v'
     refine lifts_of (f1 := f'.finish v') (w2 := w2) (es2 := pre' ++ (seen P f'.fn gs.toArray ++ #[])) hk1 ((finish_round _ _).trans hro) hst fun k2 hk2 cs2 => ?_
     rw [hrx k2 hk2]
     unfold stepG.apply
     simp only [if_true, h1, hkind]
     rw [hWt]
     simp [GStep.after, live]
     rfl
   · refine lifts_of (f1 := f'.finish undef) (w2 := w2) (es2 := pre' ++ (seen P f'.fn gs.toArray ++ #[])) hk1 ((finish_round _ _).trans hro) hst fun k2 hk2 cs2 => ?_
     rw [hrx k2 hk2]
     unfold stepG.apply
     simp only [if_true, h1, hkind]
     rw [hWt]
     simp [GStep.after, live]
     rfl
   · rename_i fn xs fn' xs'
     refine lifts_in (f1 := Frame.enter P fn' xs' .normal) (f0 := f') (w2 := w2) (es2 := pre' ++ (seen P f'.fn gs.toArray ++ #[])) hk1 hro hWt hst fun k2 hk2 cs2 => ?_
     rw [hrx k2 hk2]
     unfold stepG.apply
     simp only [if_true, h1, hkind]
     have key : ∀ K, K = CallKind.normal -> GStep.after pre' (GStep.after (seen P (ext k2 f').fn (if (CallKind.normal == CallKind.early) = true then #[] else #[] ++ gs.toArray)) (.go { frame := Frame.enter P fn' xs' K, callers := ext k2 f' :: cs2, status := .running, dying := none } w2)) =
         .go (live (Frame.enter P fn' xs' .normal) (ext k2 f' :: cs2)) w2 (pre' ++ (seen P f'.fn gs.toArray ++ #[])) := by
       rintro K rfl
       simp [GStep.after, live]
       rfl
     refine key _ ?_
     split
     · exact absurd (by assumption) (hnc _ _ _ _ _)
     · rfl
   · rename_i l1 fn xs a b l1' fn' xs' a' b'
     refine lifts_in (f1 := Frame.round l1' fn' xs' a' b' .normal) (f0 := f') (w2 := w2) (es2 := pre' ++ (seen P f'.fn gs.toArray ++ #[])) hk1 hro hWt hst fun k2 hk2 cs2 => ?_
     rw [hrx k2 hk2]
     unfold stepG.apply
     simp only [if_true, h1, hkind]
     simp [GStep.after, live]
     rfl
omit [Env] [Runs] in
theorem round_lifts {m : Bool} {k1 : List Item} {f : Frame} {cs : List Frame} {w w1 : World} {g1 : Goroutine} {es : Array Event} (hk : f.kind = .normal) (hro : f.roundOf ≠ none) (hk1 : f.roundOf ≠ none -> k1 = []) (hne : cs ≠ []) {q : Nat} {j : Option Code} (hst : stepG P m (live (ext k1 f) cs) w = .go g1 w1 es) (h : ∀ cs2, stepG P m (live f cs2) w = roundStep P m f cs2 w q j) : Lifts P m k1 f cs w g1 w1 es := by
 have e := hk1 hro
 subst e
 obtain ⟨c, l, rfl⟩ := List.exists_cons_of_ne_nil hne
 cases hx : ((Instr.endRound q j).runT P w #[]).1 with
 | halt hh u' =>
   rw [ext_nil, h] at hst
   unfold roundStep at hst
   rw [hx] at hst
   simp only [GStep.after] at hst
   cases hst
 | ok v w2 =>
   refine lifts_pop (v := v) (w2 := w2) (es2 := seen P f.fn ((Instr.endRound q j).runT P w #[]).2 ++ #[]) hro hk1 hst (by simp) fun c2 l2 => ?_
   rw [h]
   unfold roundStep
   rw [hx]
   simp only [doReturn, hk]
   rfl
theorem exec_lifts (ok : POk P) (hf : FnsOk P) (hb : BodiesOk P) {m0 m l : Bool} {k1 : List Item} {f f' : Frame} {cs cs' : List Frame} {u w : World} (h : FrRel P π f f') (hno : Free (live f cs)) (hr : f.mode = .run) (hcs' : f'.roundOf ≠ none -> cs' ≠ []) (W : WRel π u w) (T : Tapes u w) (hne : f.todo ≠ []) (hrk : f'.roundOf ≠ none -> k1 = []) (hk1 : ∀ id x, exitTo id x = none -> exitTo id (x ++ k1) = none)
   {g1 g1' : Goroutine} {u1 w1 : World} {es0 es : Array Event} (hl : stepG P m0 (live (ext k1 f) cs) u l = .go g1 u1 es0) (hm : ∀ ch, g1.frame.mode ≠ .panicking ch) (hst : stepG P m (live (ext k1 f') cs') w = .go g1' w1 es) : Lifts P m k1 f' cs' w g1' w1 es := by
 have hr' : f'.mode = .run := h.mode ▸ hr
 have hR : ∀ k cs2, stepG P m (live (ext k f') cs2) w = stepG.exec P m true (ext k f') cs2 none w := fun k cs2 => stepG_run (by exact hr')
 have hR0 : ∀ cs2, stepG P m (live f' cs2) w = stepG.exec P m true f' cs2 none w := fun cs2 => stepG_run hr'
 have hfit := h.fit
 have go1 : ∀ t, (∀ k cs2, stepG.exec P m true (ext k f') cs2 none w = .go (live (ext k { f' with todo := t }) cs2) w) -> Lifts P m k1 f' cs' w g1' w1 es := fun t e => lifts_of (f1 := { f' with todo := t }) hrk rfl hst fun k _ cs2 => (hR k cs2).trans (e k cs2)
 have hnone : f'.roundOf = none -> f.roundOf = none := fun e => by
   have := h.round
   rw [e] at this
   cases hh : f.roundOf with
   | none => rfl
   | some q => rw [hh] at this; exact this.elim
 cases ht : f.todo with
 | nil => exact absurd ht hne
 | cons x k0 =>
   have ht0 : f'.todo = rnI π x :: k0.map (rnI π) := by rw [h.todo, ht]; rfl
   generalize hkk : k0.map (rnI π) = k at ht0
   have hte : ∀ k2, (ext k2 f').todo = rnI π x :: (k ++ k2) := fun k2 => by simp [ext, ht0]
   have htl : (ext k1 f).todo = x :: (k0 ++ k1) := by simp [ext, ht]
   have hrl : (ext k1 f).mode = .run := hr
   rw [ht] at hfit
   have hx := hfit x List.mem_cons_self
   have hrnd : ∀ j, (∀ ff ccs qq, ff.todo = rnI π x :: k -> ff.roundOf = some qq -> stepG.exec P m true ff ccs none w = roundStep P m ff ccs w qq j) -> f'.roundOf ≠ none -> Lifts P m k1 f' cs' w g1' w1 es := fun j e hro => by
     cases hq : f'.roundOf with
     | none => exact absurd hq hro
     | some q => exact round_lifts h.kind' hro hrk (hcs' hro) hst fun cs2 => (hR0 cs2).trans (e f' cs2 q ht0 hq)
   cases x with
   | inBlock id => exact go1 k fun k2 cs2 => by unfold stepG.exec; simp only [hte, rnI]; rfl
   | inLoop b => exact go1 (.code b :: .inLoop b :: k) fun k2 cs2 => by unfold stepG.exec; simp only [hte, rnI]; rfl
   | inScope b => exact go1 k fun k2 cs2 => by unfold stepG.exec; simp only [hte, rnI]; rfl
   | inRangeFunc q =>
     exfalso
     have e : stepG P m (live (ext k1 f') cs') w = .ended (.unsupported (.noEntry "a range function without a Go body that blocks") ((ext k1 f').pos P)) w := by
       rw [hR]; unfold stepG.exec; simp only [hte, rnI]
     rw [e] at hst; cases hst
   | beginRound =>
     have e : ∀ mm ll ff ccs ww kk, ff.todo = .beginRound :: kk -> stepG.exec P mm ll ff ccs none ww = stepG.apply P ll ff ccs none (do ff.roundOf.elim (stuck "beginRound: no round") Instr.beginRound; pure .skip) ww := fun _ _ _ _ _ _ e => by unfold stepG.exec; simp only [e]
     have haf : ∀ x : GStep, x = GStep.after #[] x := fun x => by cases x <;> simp [GStep.after]
     have hround := h.round
     have hS : SRel P NRel π (do f.roundOf.elim (stuck "beginRound: no round") Instr.beginRound; pure .skip) (do f'.roundOf.elim (stuck "beginRound: no round") Instr.beginRound; pure .skip) := by
       cases hro : f.roundOf with
       | none => exact SRel.halt
       | some q =>
         rw [hro] at hround
         cases hro' : f'.roundOf with
         | none => rw [hro'] at hround; exact hround.elim
         | some q' => rw [hro'] at hround; exact r_beginRound hx.1 hround
     exact apply_lifts (f0 := f) (f0' := f') (pre := #[]) (pre' := #[]) h hr W T hS (waits_begin ht0) rfl hrk hl hm hst (by rw [stepG_run hrl, e _ _ _ _ _ _ htl]; exact haf _) (fun k2 _ cs2 => by rw [hR, e _ _ _ _ _ _ (hte k2)]; exact haf _) fun k2 d r s k e2 => by rw [hte] at e2; cases e2
   | endRangeFunc q =>
     obtain ⟨q', hq⟩ := h.dom (.endRangeFunc q) (by rw [ht]; exact List.mem_cons_self)
     have hte2 : ∀ k2, (ext k2 f').todo = .endRangeFunc q' :: (k ++ k2) := fun k2 => by rw [hte]; simp only [rnI, hq, Option.getD_some]
     have e : ∀ mm ll ff ccs ww qq kk, ff.todo = .endRangeFunc qq :: kk -> stepG.exec P mm ll ff ccs none ww = GStep.after (seen P ff.fn ((Instr.endLoop qq).runT P ww #[]).2) (match ((Instr.endLoop qq).runT P ww #[]).1 with
         | .ok jump w => .go (live { ff with todo := (jump.map Item.code).toList ++ kk } ccs) w
         | .halt (.panic v) w => .go (live (ff.raise [{ v, recovered := false }]) ccs) w
         | .halt _ w => .ended (.stuck "range over a function: no such loop" (ff.pos P)) w) := fun _ _ _ _ _ _ _ e => by unfold stepG.exec; simp only [e]; rfl
     have hR2 := (r_endLoop (P := P) (π := π) hx.1 hq).run #[] #[] W T (r := (Instr.endLoop q).run P u) (es' := ((Instr.endLoop q).runT P u #[]).2) (by rw [<- Sem.runT_fst (es := #[])])
     rw [stepG_run hrl, e _ _ _ _ _ _ _ htl, Sem.runT_fst] at hl
     cases hx2 : (Instr.endLoop q).run P u with
     | halt hh u' =>
       exfalso
       rw [hx2] at hl
       cases hh with
       | panic v =>
         simp only [GStep.after, GStep.go.injEq] at hl
         obtain ⟨rfl, -, -⟩ := hl
         refine hm [{ v, recovered := false }] ?_
         show ((ext k1 f).raise _).mode = _
         unfold Frame.raise; rw [hrl]
       | _ => simp only [GStep.after] at hl; cases hl
     | ok j u2 =>
       rw [hx2] at hR2
       obtain ⟨⟨j', w2, π1, gs, r1, -, -⟩, -⟩ := hR2
       refine lifts_of (f1 := { f' with todo := (j'.map Item.code).toList ++ k }) (w2 := w2) (es2 := seen P f'.fn (#[] ++ gs.toArray) ++ #[]) hrk rfl hst fun k2 _ cs2 => ?_
       rw [hR, e _ _ _ _ _ _ _ (hte2 k2), r1]
       simp only [GStep.after, ext, List.append_assoc]
   | inRegion ops is =>
     cases is with
     | nil => exact go1 k fun k2 cs2 => by unfold stepG.exec; simp only [hte, rnI]; rfl
     | cons i is =>
       have hy : yielded ops f.tmps = yielded ops f'.tmps := yielded_rel h.tmps
       have e1 : ∀ mm ll ff ccs ww kk, ff.todo = .inRegion ops (i :: is) :: kk -> stepG.exec P mm ll ff ccs none ww = if ((ops[i]?).map (Region.wanted · (yielded ops ff.tmps))).getD false then stepG.oper P ll ff ccs none ww else .go (live (ff.finish undef) ccs) ww := fun _ _ _ _ _ _ e => by unfold stepG.exec; simp only [e]; rfl
       by_cases hw : ((ops[i]?).map (Region.wanted · (yielded ops f.tmps))).getD false = true
       · cases ho : ops[i]? with
         | none => rw [ho] at hw; cases hw
         | some o =>
           have hfo := (hx i o ho).resolve_left (hno ops i is k0 o ht ho)
           have hnd : ∀ c, o.op ≠ .defer c := fun c hd => by
             have := hfo.1
             unfold Fit at this
             rw [hd] at this
             exact this
           have e2 : ∀ ll ff ccs ww kk, ff.todo = .inRegion ops (i :: is) :: kk -> stepG.oper P ll ff ccs none ww = stepG.apply P ll ff ccs none (execOp ff.eval o) ww := fun _ _ _ _ _ e => by
             unfold stepG.oper Frame.oper?
             simp only [e, ho]
             split
             · rename_i hd; exact absurd hd (hnd _)
             · rfl
           have haf : ∀ x : GStep, x = GStep.after #[] x := fun x => by cases x <;> simp [GStep.after]
           have hs := (r_execOp (P := P) ok hf (fun _ => rfl) (fun _ => rfl) hfo.1 fun x hx => h.eval (hfo.2 x hx))
           exact apply_lifts (f0 := f) (f0' := f') (pre := #[]) (pre' := #[]) h hr W T hs (waits_region ht0) rfl hrk hl hm hst (by rw [stepG_run hrl, e1 _ _ _ _ _ _ htl, if_pos (by exact hw), e2 _ _ _ _ _ htl, ext_eval]; exact haf _)
             (fun k2 _ cs2 => by rw [hR, e1 _ _ _ _ _ _ (hte k2), if_pos (by rw [<- hw, hy]; rfl), e2 _ _ _ _ _ (hte k2), ext_eval]; exact haf _) fun k2 d r s k e2 => by rw [hte] at e2; cases e2
       · refine lifts_of (f1 := f'.finish undef) (w2 := w) (es2 := #[]) hrk (finish_round _ _) hst fun k2 _ cs2 => ?_
         rw [hR, e1 _ _ _ _ _ _ (hte k2), if_neg (by rw [show (ext k2 f').tmps = f'.tmps from rfl, <- hy]; exact hw), waits_region ht0]
   | code c =>
     cases c with
     | skip => exact go1 k fun k2 cs2 => by unfold stepG.exec; simp only [hte, rnI]; rfl
     | label n => exact go1 k fun k2 cs2 => by unfold stepG.exec; simp only [hte, rnI]; rfl
     | seq a b => exact go1 (.code a :: .code b :: k) fun k2 cs2 => by unfold stepG.exec; simp only [hte, rnI]; rfl
     | block id b => exact go1 (.code b :: .inBlock id :: k) fun k2 cs2 => by unfold stepG.exec; simp only [hte, rnI]; rfl
     | loop b => exact go1 (.code b :: .inLoop b :: k) fun k2 cs2 => by unfold stepG.exec; simp only [hte, rnI]; rfl
     | scope b => exact go1 (.code b :: .inScope b :: k) fun k2 cs2 => by unfold stepG.exec; simp only [hte, rnI]; rfl
     | cond c a b =>
       have hv := h.eval hx.1
       have el : ∀ mm ll ff ccs ww, ff.todo = .code (.cond c a b) :: (k0 ++ k1) -> (∀ bb, ff.eval c ≠ .bool bb) -> stepG.exec P mm ll ff ccs none ww = .ended (.stuck "cond: bool expected" (ff.pos P)) ww := fun _ _ ff _ _ e e2 => by
         unfold stepG.exec
         simp only [e]
       by_cases hbb : ∃ bb, f.eval c = .bool bb
       · obtain ⟨bb, e⟩ := hbb
         have e' : f'.eval c = .bool bb := by
           rw [e] at hv
           generalize f'.eval c = v' at hv
           cases hv
           rfl
         refine go1 (.code (if bb then a else b) :: k) fun k2 cs2 => ?_
         have e3 : (ext k2 f').eval c = .bool bb := by rw [ext_eval]; exact e'
         unfold stepG.exec
         simp only [hte, rnI, e3]
         rfl
       · rw [stepG_run hrl, el _ _ _ _ _ htl fun bb e => hbb ⟨bb, by rw [<- ext_eval k1]; exact e⟩] at hl
         cases hl
     | exit id =>
       cases he : exitTo id k0 with
       | some t =>
         have he' : exitTo id k = some (t.map (rnI π)) := by rw [<- hkk, exitTo_map, he]; rfl
         refine go1 (t.map (rnI π)) fun k2 cs2 => ?_
         have e3 := exitTo_app (k := k2) he'
         unfold stepG.exec
         simp only [hte, rnI, e3]
         rfl
       | none =>
         have he' : exitTo id k = none := by rw [<- hkk, exitTo_map, he]; rfl
         by_cases hro : f'.roundOf = none
         · have he2 := hk1 id k0 he
           have hrol : (ext k1 f).roundOf = none := hnone hro
           have e : stepG.exec P m0 l (ext k1 f) cs none u = .ended (.stuck "exit, goto: no such block or label" ((ext k1 f).pos P)) u := by
             unfold stepG.exec; simp only [htl, he2, hrol]; rfl
           rw [stepG_run hrl, e] at hl
           cases hl
         · exact hrnd (some (.exit id)) (fun ff ccs qq e e2 => by unfold stepG.exec roundStep; simp only [e, rnI, he', e2]; rfl) hro
     | ret =>
       by_cases hro : f'.roundOf = none
       · refine lifts_of (f1 := { f' with mode := .returning }) (w2 := w) (es2 := #[]) hrk rfl hst fun k2 _ cs2 => ?_
         have e : ∀ mm ll ff ccs ww kk, ff.todo = .code .ret :: kk -> ff.roundOf = none -> stepG.exec P mm ll ff ccs none ww = .go (live { ff with mode := .returning } ccs) ww := fun _ _ _ _ _ _ e e2 => by unfold stepG.exec; simp only [e, e2]; rfl
         rw [hR, e _ _ _ _ _ _ (hte k2) hro]
         rfl
       · exact hrnd (some .ret) (fun ff ccs qq e e2 => by unfold stepG.exec roundStep; simp only [e, rnI, e2]; rfl) hro
     | refuse why =>
       obtain ⟨o, e⟩ : ∃ o, stepG.exec P m0 l (ext k1 f) cs none u = .ended o u := by
         unfold stepG.exec
         simp only [htl]
         exact ⟨_, rfl⟩
       rw [stepG_run hrl, e] at hl
       cases hl
     | region id ops draw =>
       cases draw with
       | false => exact go1 (.inRegion ops (List.range ops.size) :: k) fun k2 cs2 => by unfold stepG.exec; simp only [hte, rnI]; rfl
       | true =>
         cases hL : (choose (.order f'.fn id)).run P w with
         | halt hh u' =>
           exfalso
           unfold choose at hL
           simp only [Sem.run] at hL
           split at hL <;> cases hL
         | ok n w2 =>
           refine lifts_of (f1 := { f' with todo := .inRegion ops (Region.schedule (P.follows .mixedOrders) ops n) :: k }) (w2 := w2) (es2 := #[]) hrk rfl hst fun k2 _ cs2 => ?_
           rw [hR]
           have e3 : (choose (.order (ext k2 f').fn id)).run P w = .ok n w2 := hL
           unfold stepG.exec; simp only [hte, rnI, e3]; rfl
     | rangeFunc fv params assign body =>
       obtain ⟨hxf, hxa, hxb⟩ := hx
       have hRf := (hb.2 assign hxa).2
       have e : ∀ mm ll ff ccs ww kk, ff.todo = .code (.rangeFunc fv params assign body) :: kk -> stepG.exec P mm ll ff ccs none ww = GStep.after (seen P ff.fn ((Instr.enterLoop ff.fn ff.tmps params assign body ff.roundOf).runT P ww #[]).2) (match ((Instr.enterLoop ff.fn ff.tmps params assign body ff.roundOf).runT P ww #[]).1 with
         | .ok (q, mark) w => stepG.apply P ll { ff with todo := .inRangeFunc q :: kk, defers := mark ++ ff.defers } ccs none (do let d <- Deferred.ofValue (ff.eval fv) #[.func (.yield q) #[] #[]]; invoke d.target d.args) w
         | .halt _ w => .ended (.stuck "range over a function: no such loop" (ff.pos P)) w) := fun _ _ ff _ ww _ e => by
         unfold stepG.exec
         simp only [e]
         cases ((Instr.enterLoop ff.fn ff.tmps params assign body ff.roundOf).runT P ww #[]).1 with
         | ok r w =>
           obtain ⟨q, mark⟩ := r
           simp only [resolve]
           rw [List.map_toArray]
           rfl
         | halt _ _ => rfl
       have hR2 := (r_enterLoop (P := P) h.fn h.tmps hxa hxb h.round (params := params)).run #[] #[] W T (r := (Instr.enterLoop f.fn f.tmps params assign body f.roundOf).run P u) (es' := ((Instr.enterLoop f.fn f.tmps params assign body f.roundOf).runT P u #[]).2) (by rw [<- Sem.runT_fst (es := #[])])
       have hl0 := hl
       rw [stepG_run hrl, e _ _ _ _ _ _ htl] at hl
       have hfst : ((Instr.enterLoop (ext k1 f).fn (ext k1 f).tmps params assign body (ext k1 f).roundOf).runT P u #[]).1 = (Instr.enterLoop f.fn f.tmps params assign body f.roundOf).run P u := Sem.runT_fst _ _ _ _
       rw [hfst] at hl
       cases hx2 : (Instr.enterLoop f.fn f.tmps params assign body f.roundOf).run P u with
       | halt hh u' => rw [hx2] at hl; simp only [GStep.after] at hl; cases hl
       | ok q u2 =>
         obtain ⟨q, mark⟩ := q
         rw [hx2] at hR2
         obtain ⟨⟨⟨q', mark'⟩, w2, π1, gs, r1, ⟨hq, hmk⟩, r3, r4, r5⟩, -⟩ := hR2
         simp only at hq hmk
         have hdk : ∀ y, y ∈ k0 -> LoopOk π y := fun y hy => h.dom y (by rw [ht]; exact List.mem_cons_of_mem _ hy)
         have hkf : ∀ y, y ∈ k0 -> ItemFit P y := fun y hy => hfit y (List.mem_cons_of_mem _ hy)
         have h1 := h.mono r5.le
         have hF : FrRel P π1 { f with todo := .inRangeFunc q :: k0, defers := mark ++ f.defers } { f' with todo := .inRangeFunc q' :: k, defers := mark' ++ f'.defers } := by
           refine ⟨h1.fn, h1.fnOk, h1.tmps, ?_, fun y hy => ?_, fun y hy => ?_, hmk.append h1.defers, h1.mode, h1.live, h1.kind, h1.kind', h1.round, fun _ => hRf⟩
           · rw [List.map_cons, map_mono r5.le hdk, hkk]
             simp only [rnI, hq, Option.getD_some]
           · rcases List.mem_cons.1 hy with rfl | hy
             · exact ⟨_, hq⟩
             · exact (hdk y hy).mono r5.le
           · rcases List.mem_cons.1 hy with rfl | hy
             · exact hRf
             · exact hkf y hy
         refine apply_lifts (f0 := f) (f0' := f') (pre := seen P f.fn ((Instr.enterLoop f.fn f.tmps params assign body f.roundOf).runT P u #[]).2) (pre' := seen P f'.fn (#[] ++ gs.toArray)) hF hr r3 r4 (r_callValue hf (h1.eval hxf) (xs' := #[.func (.yield q') #[] #[]]) (VsRel.one (VRel.func (f := .yield q) (f' := .yield q') hq rfl (fun i hi => by simp at hi) rfl (fun i hi => by simp at hi)))) (waits_range rfl) rfl hrk hl0 hm hst ?_ (fun k2 _ cs2 => ?_) fun k2 d r s k e2 => by cases e2
         · rw [stepG_run hrl, e _ _ _ _ _ _ htl, hfst, hx2]
           simp only [ext_eval]
           rfl
         · rw [hR, e _ _ _ _ _ _ (hte k2)]
           have : (Instr.enterLoop (ext k2 f').fn (ext k2 f').tmps params assign body (ext k2 f').roundOf).runT P w #[] = (.ok (q', mark') w2, #[] ++ gs.toArray) := r1
           rw [this]
           simp only [ext_eval]
           rfl
     | goto _ => exact hx.elim
   | _ => exact hx.elim
omit [Env] [Runs] in
theorem end_lifts {m : Bool} {f : Frame} (hr : f.mode = .run) (ht : f.todo = []) (hro : f.roundOf = none) (cs : List Frame) (w : World) : stepG P m (live f cs) w = .go (live { f with mode := .returning } cs) w := by
 rw [stepG_run hr]
 unfold stepG.exec; simp only [ht, hro]; rfl
omit [Env] [Runs] in
theorem end_round {m : Bool} {f : Frame} (hr : f.mode = .run) (ht : f.todo = []) {q : Nat} (hro : f.roundOf = some q) (cs : List Frame) (w : World) : stepG P m (live f cs) w = roundStep P m f cs w q none := by
 rw [stepG_run hr]
 unfold stepG.exec roundStep; simp only [ht, hro]; rfl
theorem leave_lifts {m : Bool} {f f0 : Frame} (h : FrRel P π f0 f) (hr : f.mode = .returning) (hd : f.defers = []) {c : Frame} {l : List Frame} {w w1 : World} {g1 : Goroutine} {es : Array Event} (hst : stepG P m (live f (c :: l)) w = .go g1 w1 es) :
   ∃ v, g1 = live (c.finish v) l /\ ∀ c2 l2, stepG P m (live f (c2 :: l2)) w = .go (live (c2.finish v) l2) w1 es := by
 have hro : f0.roundOf = none := by rcases h.live with h1 | h1; rw [h.mode, hr] at h1; cases h1; exact h1.2
 obtain ⟨fn, hfn⟩ := h.fnOk hro
 rw [h.fn] at hfn
 rw [stepG_leaving hr hd hfn h.kind' rfl] at hst
 have key : ∀ c2 l2, stepG P m (live f (c2 :: l2)) w = _ := fun c2 l2 => stepG_leaving hr hd hfn h.kind' rfl
 cases hx : ((results fn f.tmps).runT P w #[]).1 with
 | ok v w2 =>
   rw [hx] at hst
   simp only [GStep.after] at hst
   cases hst
   refine ⟨v, rfl, fun c2 l2 => ?_⟩
   rw [key, hx]
   simp only [GStep.after]
 | halt hh w2 => rw [hx] at hst; cases hh <;> (simp only [GStep.after] at hst; cases hst)
theorem unwind_lifts {m : Bool} {k1 : List Item} {f f0 : Frame} (h : FrRel P π f0 f) (hr : f.mode = .returning) (hd : f.defers ≠ []) {cs : List Frame} {w w1 : World} {g1 : Goroutine} {es : Array Event} (hst : stepG P m (live (ext k1 f) cs) w = .go g1 w1 es) :
   ∃ f1, f1.roundOf = f.roundOf /\ g1 = live (ext k1 f1) cs /\ ∀ k cs2, stepG P m (live (ext k f) cs2) w = .go (live (ext k f1) cs2) w1 es := by
 have hdf := h.defers
 generalize h1 : f0.defers = d0 at hdf
 generalize h2 : f.defers = dd at hdf
 cases hdf with
 | nil => exact absurd h2 hd
 | @cons r r' ds0 ds e hds =>
   have key : ∀ k cs2, stepG P m (live (ext k f) cs2) w = _ := fun k cs2 => stepG_unwind (f := ext k f) (by show f.mode ≠ _; rw [hr]; simp) h2
   rw [key] at hst
   cases hx : ((Instr.takeDeferred r').runT P w #[]).1 with
   | ok v w2 =>
     rw [hx] at hst
     simp only [GStep.after] at hst
     cases hst
     refine ⟨{ f with defers := v ++ ds }, rfl, rfl, fun k cs2 => ?_⟩
     rw [key, hx]
     rfl
   | halt hh w2 => rw [hx] at hst; simp only [GStep.after] at hst; cases hst
end
end Go.Eq
namespace Go.Eq
open Go Go.Conc Go.Nest
open Go.ConcN (WgLive)
def stopK : List Item := [.code (.refuse "")]
theorem stop_exit (id : Nat) (x : List Item) (h : exitTo id x = none) : exitTo id (x ++ stopK) = none := by
 induction x with
 | nil => rfl
 | cons y x ih =>
   rw [List.cons_append]
   cases y
   case inBlock id' =>
     simp only [exitTo] at h ⊢
     split at h
     · cases h
     · rename_i hh; rw [if_neg hh]; exact ih h
   all_goals (simp only [exitTo] at h ⊢; exact ih h)
section
variable {P : Program} {k : List Item} {rr : List Frame}
inductive DC (P : Program) (k : List Item) (rr : List Frame) : List Frame -> List Frame -> Prop
 | base {c : Frame} : c.roundOf = none -> Waits c -> DC P k rr [ext stopK c, door P] (ext k c :: rr)
 | cons {c : Frame} {l l' : List Frame} : DC P k rr l l' -> DC P k rr (c :: l) (c :: l')
def Deep (P : Program) (k : List Item) (rr : List Frame) (g gA : Goroutine) : Prop :=
 (∃ f, f.roundOf = none /\ g = live (ext stopK f) [door P] /\ gA = live (ext k f) rr) ∨ ∃ f l l', g = live f l /\ gA = live f l' /\ DC P k rr l l'
theorem DC.two {l l' : List Frame} (h : DC P k rr l l') : ∃ c d l2, l = c :: d :: l2 := by
 induction h with
 | base => exact ⟨_, _, _, rfl⟩
 | cons _ ih => obtain ⟨_, _, _, rfl⟩ := ih; exact ⟨_, _, _, rfl⟩
variable [Env] [Runs]
theorem FsRel.door_nil {π : Ren} {cs cs' : List Frame} (h : FsRel P π [door P] [door P] cs cs') (e : cs = [door P]) : cs' = [door P] := by
 cases h with
 | base => rfl
 | cons a b =>
   simp only [List.cons.injEq] at e
   obtain ⟨-, rfl⟩ := e
   obtain ⟨ds, e2, -⟩ := b.calm
   simp at e2
omit [Env] [Runs] in
theorem map_stop {π : Ren} : stopK.map (rnI π) = stopK := rfl
omit [Env] [Runs] in
theorem rn_stop {π : Ren} {x : Item} (h : rnI π x = .code (.refuse "")) : x = .code (.refuse "") := by
 cases x <;> first | exact h | cases h
theorem FrRel.cut {π : Ren} {f f' : Frame} (h : FrRel P π (ext stopK f) (ext stopK f')) : FrRel P π f f' := by
 refine ⟨h.fn, h.fnOk, h.tmps, ?_, fun x hx => h.dom x (List.mem_append_left _ hx), fun x hx => h.fit x (List.mem_append_left _ hx), h.defers, h.mode, h.live, h.kind, h.kind', h.round, h.ns⟩
 have := h.todo
 simp only [ext, List.map_append, map_stop] at this
 exact List.append_cancel_right this
theorem FrRel.split {π : Ren} {f f0 : Frame} (h : FrRel P π f (ext stopK f0)) : ∃ f1, f = ext stopK f1 /\ f1.mode = f.mode /\ f1.kind = f.kind /\ f1.roundOf = f.roundOf /\ f1.defers = f.defers := by
 have := h.todo
 simp only [ext] at this
 obtain ⟨X, Y, e1, e2, e3⟩ := List.map_eq_append_iff.1 this.symm
 have hY : Y = stopK := by
   cases Y with
   | nil => cases e3
   | cons y Y =>
     simp only [List.map_cons, stopK, List.cons.injEq, List.map_eq_nil_iff] at e3
     rw [rn_stop e3.1, e3.2]; rfl
 subst hY
 refine ⟨{ f with todo := X }, ?_, rfl, rfl, rfl, rfl⟩
 cases f
 simp only [ext] at e1 ⊢
 simp [e1]
theorem deep_step (hq : ∀ o, ¬ Runs.orc o) (ok : POk P) (hf : FnsOk P) (hb : BodiesOk P) {m0 m l : Bool} {π π1 : Ren} {g g1 gR gR1 gA : Goroutine} {u u1 w w1 : World} {es0 es : Array Event} (hg : GRel P π [door P] [door P] g gR) (W : WRel π u w) (T : Tapes u w)
   (hl : stepG P m0 g u l = .go g1 u1 es0) (hst : stepG P m gR w = .go gR1 w1 es) (hrel : GRel P π1 [door P] [door P] g1 gR1) (hD : Deep P k rr gR gA)
   (hno : ∀ f, g = live (ext stopK f) [door P] -> (f.todo ≠ [] /\ f.mode = .run) ∨ (f.mode = .returning /\ f.defers ≠ [])) : ∃ gA1, stepG P m gA w = .go gA1 w1 es /\ Deep P k rr gR1 gA1 := by
 have hm : ∀ ch, g1.frame.mode ≠ .panicking ch := fun ch e => by
   obtain ⟨f, f', cs, cs', rfl, -, h1, -⟩ := hrel
   have e' : f.mode = .panicking ch := e
   rcases h1.live with h | ⟨h, -⟩ <;> rw [e'] at h <;> cases h
 obtain ⟨f, f', cs, cs', rfl, rfl, hfr, hfs⟩ := hg
 have hdefers : ∀ {x y : Frame}, FrRel P π x y -> x.defers ≠ [] -> y.defers ≠ [] := fun hxy hx e => by
   have := hxy.defers
   rw [e] at this
   generalize hh : (_ : Frame).defers = dd at this hx
   cases this
   exact hx rfl
 have hdefers' : ∀ {x y : Frame}, FrRel P π x y -> x.defers = [] -> y.defers = [] := fun hxy hx => by
   have := hxy.defers
   rw [hx] at this
   generalize hh : (_ : Frame).defers = dd at this ⊢
   cases this
   rfl
 rcases hD with ⟨f0, hr0, e1, rfl⟩ | ⟨f0, l0, l', e1, rfl, hDC⟩
 · -- the piece's own frame runs
   have e2 : f' = ext stopK f0 := congrArg Goroutine.frame e1
   have e3 : cs' = [door P] := congrArg Goroutine.callers e1
   subst e2 e3
   have hcs : cs = [door P] := by
     cases hfs with
     | base => rfl
     | cons a b =>
       exfalso
       rename_i fs
       have : ∀ {x y : List Frame}, FsRel P π [door P] [door P] x y -> y ≠ [] := fun h => by
         cases h <;> simp
       exact this b rfl
   subst hcs
   obtain ⟨f1L, rfl, q1, q2, q3, q4⟩ := hfr.split
   have hcut : FrRel P π f1L f0 := FrRel.cut hfr
   rcases hno f1L rfl with ⟨hne, hrun⟩ | ⟨hret, hdef⟩
   · have hLf := exec_lifts (m0 := m0) (m := m) (l := l) (k1 := stopK) (cs := [door P]) (cs' := [door P]) (u := u) (w := w) ok hf hb hcut (fun _ _ _ _ _ _ _ => hq _) hrun (fun _ => by simp) W T hne (fun h => absurd hr0 h) stop_exit hl hm hst
     rcases hLf with ⟨f1, e5, rfl, h⟩ | ⟨f1, f00, e5, hW, rfl, h⟩ | ⟨h, -⟩
     · exact ⟨_, h k (fun h => absurd hr0 h) rr, .inl ⟨f1, e5.trans hr0, rfl, rfl⟩⟩
     · exact ⟨_, h k (fun h => absurd hr0 h) rr, .inr ⟨f1, _, _, rfl, rfl, .base (e5.trans hr0) hW⟩⟩
     · exact absurd hr0 h
   · obtain ⟨f1, e5, rfl, h⟩ := unwind_lifts hcut (hcut.mode ▸ hret) (hdefers hcut hdef) hst
     exact ⟨_, h k rr, .inl ⟨f1, e5.trans hr0, rfl, rfl⟩⟩
 · -- a frame above it
   have e2 : f' = f0 := congrArg Goroutine.frame e1
   have e3 : cs' = l0 := congrArg Goroutine.callers e1
   subst e2 e3
   have pop : ∀ v, (∀ c l, cs' = c :: l -> gR1 = live (c.finish v) l) -> (∀ c2 l2, stepG P m (live f' (c2 :: l2)) w = .go (live (c2.finish v) l2) w1 es) -> ∃ gA1, stepG P m (live f' l') w = .go gA1 w1 es /\ Deep P k rr gR1 gA1 := fun v hv h => by
     cases hDC with
     | @base c hc hW =>
       rw [hv _ _ rfl]
       exact ⟨_, h _ _, .inl ⟨c.finish v, (finish_round _ _).trans hc, by rw [hW], by rw [hW]⟩⟩
     | cons hDC =>
       rw [hv _ _ rfl]
       exact ⟨_, h _ _, .inr ⟨_, _, _, rfl, rfl, hDC⟩⟩
   have hne' : cs' ≠ [] := by
     obtain ⟨c, d, l2, e⟩ := hDC.two
     rw [e]; simp
   rcases hfr.live with hr | ⟨hr, hro⟩
   · have hr' : f'.mode = .run := hfr.mode ▸ hr
     by_cases hne : f.todo = []
     · have ht' : f'.todo = [] := by rw [hfr.todo, hne]; rfl
       cases hro' : f'.roundOf with
       | none =>
         rw [end_lifts hr' ht' hro'] at hst
         cases hst
         exact ⟨_, end_lifts hr' ht' hro' _ _, .inr ⟨_, _, _, rfl, rfl, hDC⟩⟩
       | some q =>
         have hLf := round_lifts (k1 := []) hfr.kind' (by rw [hro']; simp) (fun _ => rfl) hne' (by rw [ext_nil]; exact hst) fun cs2 => end_round hr' ht' hro' cs2 w
         rcases hLf with ⟨f1, -, rfl, h⟩ | ⟨f1, f00, -, hW, rfl, h⟩ | ⟨-, v, hv, h⟩
         · have h2 := h [] (fun _ => rfl) l'
           simp only [ext_nil] at h2 ⊢
           exact ⟨_, h2, .inr ⟨f1, _, _, rfl, rfl, hDC⟩⟩
         · have h2 := h [] (fun _ => rfl) l'
           simp only [ext_nil] at h2 ⊢
           exact ⟨_, h2, .inr ⟨f1, _, _, rfl, rfl, hDC.cons⟩⟩
         · exact pop v hv h
     · have hLf := exec_lifts (m0 := m0) (m := m) (l := l) (k1 := []) (cs := cs) (cs' := cs') (u := u) (w := w) ok hf hb hfr (fun _ _ _ _ _ _ _ => hq _) hr (fun _ => hne') W T hne (fun _ => rfl) (fun id x h => by simpa using h) (by rw [ext_nil]; exact hl) hm (by rw [ext_nil]; exact hst)
       rcases hLf with ⟨f1, -, rfl, h⟩ | ⟨f1, f00, -, hW, rfl, h⟩ | ⟨-, v, hv, h⟩
       · have h2 := h [] (fun _ => rfl) l'
         simp only [ext_nil] at h2 ⊢
         exact ⟨_, h2, .inr ⟨f1, _, _, rfl, rfl, hDC⟩⟩
       · have h2 := h [] (fun _ => rfl) l'
         simp only [ext_nil] at h2 ⊢
         exact ⟨_, h2, .inr ⟨f1, _, _, rfl, rfl, hDC.cons⟩⟩
       · exact pop v hv h
   · have hr' : f'.mode = .returning := hfr.mode ▸ hr
     by_cases hd : f.defers = []
     · obtain ⟨c, l2, e⟩ := List.exists_cons_of_ne_nil hne'
       have hst2 := hst
       rw [e] at hst2
       obtain ⟨v, rfl, h⟩ := leave_lifts hfr hr' (hdefers' hfr hd) hst2
       exact pop v (fun c' l'' e' => by rw [e] at e'; cases e'; rfl) h
     · obtain ⟨f1, -, rfl, h⟩ := unwind_lifts (k1 := []) hfr hr' (hdefers hfr hd) (by rw [ext_nil]; exact hst)
       have h2 := h [] l'
       simp only [ext_nil] at h2 ⊢
       exact ⟨_, h2, .inr ⟨f1, _, _, rfl, rfl, hDC⟩⟩
theorem deep_end {π : Ren} {f : Frame} {gR gA : Goroutine} (hg : GRel P π [door P] [door P] (live f [door P]) gR) (hD : Deep P k rr gR gA) : ∃ f0 f0', f = ext stopK f0 /\ gR = live (ext stopK f0') [door P] /\ gA = live (ext k f0') rr /\ FrRel P π f0 f0' := by
 obtain ⟨f1, f', cs, cs', e, rfl, hfr, hfs⟩ := hg
 have e1 : f = f1 := congrArg Goroutine.frame e
 have e2 : [door P] = cs := congrArg Goroutine.callers e
 subst e1 e2
 have := hfs.door_nil rfl
 subst this
 rcases hD with ⟨f0, hr0, e1, rfl⟩ | ⟨f0, l0, l', e1, rfl, hDC⟩
 · have e2 : f' = ext stopK f0 := congrArg Goroutine.frame e1
   subst e2
   obtain ⟨f1L, rfl, -⟩ := hfr.split
   exact ⟨_, f0, rfl, rfl, rfl, FrRel.cut hfr⟩
 · exfalso
   have e3 : [door P] = l0 := congrArg Goroutine.callers e1
   obtain ⟨c, d, l2, e4⟩ := hDC.two
   rw [<- e3] at e4
   simp at e4
variable {ty : TypeId} {FinN : Perm -> Perm -> Goroutine -> World -> Prop} {c0 : Cfg} {π0 : Ren} {w0 : World}
def ContC (ty : TypeId) (P : Program) (FinN : Perm -> Perm -> Goroutine -> World -> Prop) (F : Frame -> List Frame -> Prop) (R : Frame -> World -> Prop) (k : List Item) (rr : List Frame) (c0 : Cfg) (π0 : Ren) (w0 : World) : Prop :=
 ∀ f f' π u w c, F (ext stopK f) [door P] -> R (ext stopK f) u -> FrRel P π f f' -> Acr ty c0 π0 w0 c π w -> WRel π u w -> Held c π -> Snug c w -> Sc ty P FinN c (live (ext k f') rr) w
theorem piece_go (hq : ∀ o, ¬ Runs.orc o) (ok : POk P) (hf : FnsOk P) (hb : BodiesOk P) {F : Frame -> List Frame -> Prop} (hF : Stops P F) {R : Frame -> World -> Prop} (hRt : ∀ f u t, R f u -> R f (World.on u t))
   (hlv : ∀ f f' π u, F f [door P] -> FrRel P π f f' -> (∃ o w es, stepG P true (live f [door P]) u = .ended o w es) ∨ ∃ v u1 es, stepG P true (live f [door P]) u = .go (live ((door P).finish v) []) u1 es)
   (hno : ∀ f u, ¬ F (ext stopK f) [door P] -> f.todo = [] -> f.mode = .run -> f.kind = .normal -> ∀ g1 u1 es, stepG P true (live (ext stopK f) [door P]) u ≠ .go g1 u1 es)
   (S0 : Snug c0 w0) (K : ContC ty P FinN F R k rr c0 π0 w0) {s : Goroutine × World} (ha : Acc (Then P F R) s) :
   ∀ (π : Ren) (gR gA : Goroutine) (w : World) (c : Cfg), GRel P π [door P] [door P] s.1 gR -> Deep P k rr gR gA -> WRel π s.2 w -> Comes P F R s.1 s.2 -> Acr ty c0 π0 w0 c π w -> Held c π -> Snug c w -> Sc ty P FinN c gA w := by
 induction ha with
 | intro s _ ih =>
   obtain ⟨g, u⟩ := s
   intro π gR gA w c hg hD W hc A H S
   dsimp only at hg W hc
   have hg0 := hg
   obtain ⟨f, f', cs, cs', rfl, rfl, hfr, hfs⟩ := hg
   by_cases hfin : F f cs
   · obtain ⟨rfl, -⟩ := hF _ _ hfin
     obtain ⟨f0, f0', rfl, -, rfl, h0⟩ := deep_end hg0 hD
     exact K f0 f0' π u w c hfin (Comes.fin hF hRt ⟨π, door P, [], _, w, hg0, W⟩ hc hfin fun t => hlv _ _ _ _ hfin hfr) h0 A W H S
   · have hlive : gA.status = .running /\ gA.offers = none := by
       rcases hD with ⟨f0, -, -, rfl⟩ | ⟨f0, l0, l', -, rfl, -⟩ <;> exact ⟨rfl, rfl⟩
     refine Sc.ord hlive.1 hlive.2 fun w₁ hr => ?_
     have W1 := W.held H hr
     have S1 := S.rely hr
     have A1 := A.rely hr
     have hS := step_rel (m0 := true) (m := c.main) (l := true) ok hf hb hg0 (fun _ _ _ _ _ _ _ => hq _) (W1.on (shift u w₁) w₁.tape) (tapes_shift u w₁)
     obtain ⟨g1, u1, es1, hst1, hnx, hk1, hc1⟩ := Comes.go hq ok hf hb hF ⟨π, door P, [], _, w, hg0, W⟩ hc hfin (shift u w₁)
     rw [hst1] at hS
     rcases hS with hL | ⟨g1', w2, π1, gs, es, hst, hes, hrel, W2, -, E⟩
     · exfalso
       obtain ⟨f1, ds, ch, rfl, e2, -⟩ := hL
       obtain ⟨_, _, _, _, _, ⟨f3, f4, cs3, cs4, e3, -, hf3, -⟩, -⟩ := hk1
       simp only [live, Goroutine.mk.injEq] at e3
       have : f3.mode = .panicking ch := by rw [<- e3.1]; exact e2
       rcases hf3.live with h | ⟨h, -⟩ <;> rw [this] at h <;> cases h
     · rcases hrel with hrel | ⟨b1, l1, b2, l2, v1, v2, eb, eb2, hvv, rfl, rfl⟩
       · have E' : Eff π π1 w₁ w2 gs := E
         have W3 : WRel π1 u1 w2 := W2.on u1.tape w2.tape
         obtain ⟨gA1, hstA, hD1⟩ := deep_step (m0 := true) (l := true) (u := World.on u (shift u w₁)) hq ok hf hb hg0 (W1.on (shift u w₁) w₁.tape) (tapes_shift u w₁) hst1 hst hrel hD (fun f2 e => by
           have e1 : f = ext stopK f2 := congrArg Goroutine.frame e
           have e2 : cs = [door P] := congrArg Goroutine.callers e
           subst e1 e2
           have hcut : f2.kind = .normal := hfr.kind
           rcases hfr.live with hm | ⟨hm, -⟩
           · refine .inl ⟨fun ht => ?_, hm⟩
             exact hno f2 _ hfin ht hm hcut _ _ _ hst1
           · by_cases hd : f2.defers = []
             · exfalso
               have hcs' := hfs.door_nil rfl
               subst hcs'
               have hd' : f'.defers = [] := by
                 have := hfr.defers
                 rw [show (ext stopK f2).defers = [] from hd] at this
                 generalize f'.defers = dd at this
                 cases this; rfl
               obtain ⟨v, rfl, -⟩ := leave_lifts hfr (hfr.mode ▸ hm) hd' hst
               obtain ⟨f3, f4, cs3, cs4, -, e4, -, h4⟩ := hrel
               have : ([] : List Frame) = cs4 := congrArg Goroutine.callers e4
               subst this
               cases h4
             · exact .inr ⟨hm, hd⟩)
         obtain ⟨O, H2, S2⟩ := ord_of_eff (ty := ty) (es := es) H S1 E' (fun e he => by simpa using hes e he) W2
         exact ⟨_, _, _, _, hstA, O, ih (g1, u1) ⟨⟨π, door P, [], _, w, hg0, W⟩, hc, hfin, hnx⟩ π1 g1' gA1 w2 _ hrel hD1 W3 hc1 (A1.eff S0 H S1 E') H2 S2⟩
       · exfalso
         cases eb
         obtain ⟨_, _, _, _, _, ⟨f3, f4, cs3, cs4, e3, -, -, hf3⟩, -⟩ := hk1
         simp only [live, Goroutine.mk.injEq] at e3
         obtain ⟨ds, e4, -⟩ := hf3.calm
         have : ([] : List Frame) = ds ++ [door P] := e3.2.1.trans e4
         simp at this
def NormF (P : Program) (f : Frame) (cs : List Frame) : Prop := cs = [door P] /\ f.mode = .run /\ f.todo = stopK
omit [Env] [Runs] in
theorem norm_stops : Stops P (NormF P) := fun f cs h => ⟨h.1, fun ch e => by rw [h.2.1] at e; cases e⟩
omit [Env] [Runs] in
theorem norm_ends {f : Frame} {u : World} {cs : List Frame} (hm : f.mode = .run) (ht : f.todo = stopK) : ∃ o, stepG P true (live f cs) u = .ended o u := by
 rw [stepG_run hm]
 unfold stepG.exec
 simp only [ht, stopK]
 exact ⟨_, rfl⟩
theorem piece_norm (hq : ∀ o, ¬ Runs.orc o) (ok : POk P) (hf : FnsOk P) (hb : BodiesOk P) (S0 : Snug c0 w0) {R : Frame -> World -> Prop} (hRt : ∀ f u t, R f u -> R f (World.on u t)) (K : ContC ty P FinN (NormF P) R k rr c0 π0 w0)
   {f f' : Frame} {u : World} (hro : f'.roundOf = none) (h : FrRel P π0 (ext stopK f) (ext stopK f')) (W : WRel π0 u w0) (H : Held c0 π0) (hc : Comes P (NormF P) R (live (ext stopK f) [door P]) u) : Sc ty P FinN c0 (live (ext k f') rr) w0 := by
 refine piece_go hq ok hf hb norm_stops hRt (fun f f' π u hF _ => .inl (let ⟨_, e⟩ := norm_ends hF.2.1 hF.2.2; ⟨_, _, _, e⟩)) (fun f u hn ht hm _ g1 u1 es e => hn ⟨rfl, hm, by simp [ext, ht]⟩) S0 K (s := (live (ext stopK f) [door P], u)) Comes.acc π0 (live (ext stopK f') [door P]) _ w0 c0 ⟨_, _, _, _, rfl, rfl, h, .base⟩ (.inl ⟨_, hro, rfl, rfl⟩) W hc (.refl _ _ _) H S0
theorem piece_ret (hq : ∀ o, ¬ Runs.orc o) (ok : POk P) (hf : FnsOk P) (hb : BodiesOk P) (S0 : Snug c0 w0) {R : Frame -> World -> Prop} (hRt : ∀ f u t, R f u -> R f (World.on u t)) (K : ContC ty P FinN (FinF P) R k rr c0 π0 w0)
   {f f' : Frame} {u : World} (hro : f'.roundOf = none) (h : FrRel P π0 (ext stopK f) (ext stopK f')) (W : WRel π0 u w0) (H : Held c0 π0) (hc : Comes P (FinF P) R (live (ext stopK f) [door P]) u) : Sc ty P FinN c0 (live (ext k f') rr) w0 := by
 refine piece_go hq ok hf hb finF_stops hRt (fun f f' π u hF hfr => ?_) (fun f u hn ht hm _ g1 u1 es e => ?_) S0 K (s := (live (ext stopK f) [door P], u)) Comes.acc π0 (live (ext stopK f') [door P]) _ w0 c0 ⟨_, _, _, _, rfl, rfl, h, .base⟩ (.inl ⟨_, hro, rfl, rfl⟩) W hc (.refl _ _ _) H S0
 · have hro : f.roundOf = none := by rcases hfr.live with h | h; rw [hF.2.1] at h; cases h; exact h.2
   obtain ⟨fn, hfn⟩ := hfr.fnOk hro
   rw [stepG_leaving hF.2.1 hF.2.2 hfn hfr.kind rfl]
   cases hrr : ((results fn f.tmps).runT P u #[]).1 with
   | ok v u1 => exact .inr ⟨v, u1, _, rfl⟩
   | halt hh u1 =>
     left
     cases hh <;> exact ⟨_, _, _, rfl⟩
 · obtain ⟨_, e2⟩ := norm_ends (P := P) (f := ext stopK f) (u := u) (cs := [door P]) hm (by show f.todo ++ stopK = stopK; rw [ht]; rfl)
   rw [e2] at e
   cases e
end
end Go.Eq
namespace Go.Nest
open Go Go.Conc
def OffN : GStep -> Prop
 | .go g _ _ => g.offers = none
 | _ => True
theorem OffN.after {es : Array Event} {s : GStep} : OffN (GStep.after es s) ↔ OffN s := by cases s <;> exact Iff.rfl
theorem offN_elim {α : Type} {o : Option α} {d : GStep} {f : α -> GStep} (h : OffN d) (hf : ∀ a, OffN (f a)) : OffN (o.elim d f) := by
 cases o
 · exact h
 · exact hf _
theorem offN_dieOf (fr : Frame) (a : List ByteArray) (m : String) (b : Bool) (w : World) : OffN (dieOf fr a m b w) := by
 unfold dieOf
 repeat' split
 all_goals first | trivial | rfl
theorem offN_endFatal (P : Program) (fr : Frame) (cs : List Frame) (dy : Option Dying) (m : String) (w : World) : OffN (endFatal P fr cs dy m w) := by
 unfold endFatal
 dsimp only
 split
 · exact offN_dieOf _ _ _ _ _
 · trivial
 · trivial
theorem offN_writeOn (P : Program) (fr : Frame) (d : Dying) (f : Fatal) (w : World) : OffN (writeOn P fr d f w) := by
 unfold writeOn
 dsimp only
 split
 · trivial
 · split <;> first | trivial | rfl
theorem offN_endWith (w : World) (fd : Nat) (text : ByteArray) (o : Outcome) : OffN (endWith w fd text o) := by
 unfold endWith
 dsimp only
 repeat' split
 all_goals trivial
theorem offN_endPrinting (P : Program) (fr : Frame) (v : Value) (w : World) : OffN (endPrinting P fr v w) := by
 unfold endPrinting
 dsimp only
 split
 · exact offN_dieOf _ _ _ _ _
 · trivial
theorem offN_die (P : Program) (fr : Frame) (d : Dying) (w : World) : OffN (die P fr d w) := by
 unfold die
 split
 · exact offN_writeOn _ _ _ _ _
 split
 · split
   · rfl
   · exact offN_endWith _ _ _ _
 · dsimp only
   split
   · rfl
   · split <;> first | trivial | rfl
   · rw [OffN.after]
     repeat' split
     all_goals first | trivial | rfl | exact offN_endPrinting _ _ _ _
   · trivial
theorem offN_early (P : Program) (fr : Frame) (cs : List Frame) (dy : Option Dying) (g : Nat) (w : World) : OffN (early P fr cs dy g w) := by
 unfold early
 dsimp only
 repeat' split
 all_goals first | trivial | rfl
theorem offN_doReturn (P : Program) (m : Bool) (fr : Frame) (cs : List Frame) (dy : Option Dying) (v : Value) (w : World) : OffN (doReturn P m fr cs dy v w) := by
 unfold doReturn
 repeat' split
 all_goals first | trivial | rfl
theorem offN_callDeferred (P : Program) (fr : Frame) (cs : List Frame) (dy : Option Dying) (d : Deferred) (w : World) : OffN (callDeferred P fr cs dy d w) := by
 unfold callDeferred
 dsimp only
 refine iteInduction (motive := OffN) (fun _ => trivial) (fun _ => ?_)
 rw [OffN.after]
 repeat' split
 all_goals first | trivial | rfl | exact offN_dieOf _ _ _ _ _ | exact offN_endFatal _ _ _ _ _ _
theorem offN_unwind (P : Program) (m : Bool) (fr : Frame) (cs : List Frame) (dy : Option Dying) (w : World) : OffN (unwind P m fr cs dy w) := by
 unfold unwind
 split
 · dsimp only
   rw [OffN.after]
   split <;> first | trivial | rfl
 · exact offN_callDeferred _ _ _ _ _ _
 · split
   · trivial
   · repeat' split
     all_goals first | trivial | rfl | exact offN_endPrinting _ _ _ _
   · split
     · exact offN_doReturn _ _ _ _ _ _ _
     · dsimp only
       rw [OffN.after]
       split
       · exact offN_doReturn _ _ _ _ _ _ _
       · trivial
       · trivial
theorem offN_apply (P : Program) (l : Bool) (fr : Frame) (cs : List Frame) (dy : Option Dying) (s : Sem Next) (w : World) : OffN (stepG.apply P l fr cs dy s w) := by
 unfold stepG.apply
 dsimp only
 rw [OffN.after]
 repeat' split
 all_goals first | trivial | rfl | exact offN_dieOf _ _ _ _ _ | exact offN_endFatal _ _ _ _ _ _ | exact offN_early _ _ _ _ _ _
theorem offN_oper (P : Program) (l : Bool) (fr : Frame) (cs : List Frame) (dy : Option Dying) (w : World) : OffN (stepG.oper P l fr cs dy w) := by
 unfold stepG.oper
 repeat' split
 all_goals first | trivial | exact offN_apply _ _ _ _ _ _ _
theorem offN_exec (P : Program) (m l : Bool) (fr : Frame) (cs : List Frame) (dy : Option Dying) (w : World) : OffN (stepG.exec P m l fr cs dy w) := by
 unfold stepG.exec
 dsimp only
 split
 all_goals first
   | rfl | trivial
   | exact offN_apply _ _ _ _ _ _ _
   | (split <;> first | rfl | trivial | exact offN_oper _ _ _ _ _ _ | exact offN_apply _ _ _ _ _ _ _)
   | (rw [OffN.after]; split <;> first | rfl | trivial | exact offN_apply _ _ _ _ _ _ _)
   | (cases Extern.next _ <;> first | trivial | exact offN_apply _ _ _ _ _ _ _)
   | (split
      · first | rfl | trivial | (split <;> first | rfl | trivial)
      · rw [OffN.after]; split <;> first | trivial | exact offN_doReturn _ _ _ _ _ _ _)
   | (refine offN_elim ?_ fun _ => rfl
      split
      · first | rfl | trivial | (split <;> first | rfl | trivial)
      · rw [OffN.after]; split <;> first | trivial | exact offN_doReturn _ _ _ _ _ _ _)
theorem stepG_offN (P : Program) (m l : Bool) (g : Goroutine) (w : World) : OffN (stepG P m g w l) := by
 unfold stepG
 dsimp only
 split
 · exact offN_die _ _ _ _
 · exact offN_exec _ _ _ _ _ _ _
 · exact offN_unwind _ _ _ _ _ _
theorem stepG_offers {P : Program} {m l : Bool} {g g' : Goroutine} {w w' : World} {es : Array Event} (h : stepG P m g w l = .go g' w' es) : g'.offers = none := by
 have := stepG_offN P m l g w
 rw [h] at this
 exact this
end Go.Nest
namespace Go.Nest
open Go Go.Conc Go.Eq
open Go.ConcR (KK WgAt stA smA wr mk DC0 deafBehind_cons deafBehind_one)
open Go.ConcN (WgLive)
section
variable {ty : TypeId} {P : Program} {FinN : Perm -> Perm -> Goroutine -> World -> Prop}
def ScS (ty : TypeId) (P : Program) (FinN : Perm -> Perm -> Goroutine -> World -> Prop) (s : Stg) (c : Cfg) (g : Goroutine) (w : World) : Prop := ∃ n : Tree, Script ty P FinN n s c g w
theorem ScS.rely {s : Stg} {c : Cfg} {g : Goroutine} {w w₁ : World} (h : ScS ty P FinN s c g w) (hr : Rely ty c w w₁) : ScS ty P FinN s c g w₁ :=
 let ⟨n, hn⟩ := h; ⟨n, hn.rely hr⟩
theorem ScS.ord {s : Stg} {c : Cfg} {g : Goroutine} {w : World} (hs : s.early = true) (hr : g.status = .running) (ho : g.offers = none)
   (h : ∀ w₁, Rely ty c w w₁ -> ∃ g' w' es c', stepG P c.main g w₁ = .go g' w' es /\ Ord ty c c' w₁ w' es /\ ScS ty P FinN s c' g' w') : ScS ty P FinN s c g w := by
 classical
 refine ⟨.node { w₁ // Rely ty c w w₁ } fun x => (h x.1 x.2).choose_spec.choose_spec.choose_spec.choose_spec.2.2.choose, hr, ho, fun w₁ h₁ => ?_⟩
 have hx := (h w₁ h₁).choose_spec.choose_spec.choose_spec.choose_spec
 exact .inl ⟨hs, ⟨w₁, h₁⟩, _, _, _, _, hx.1, hx.2.1, hx.2.2.choose_spec⟩
theorem ScS.idle {s : Stg} {c : Cfg} {g : Goroutine} {w : World} (hs : s.early = false) (hu : ∃ z v, c.up = some (z, v)) (hr : g.status = .running) (ho : g.offers = none)
   (h : ∀ w₁, Rely ty c w w₁ -> ∃ g' es, stepG P c.main g w₁ = .go g' w₁ es /\ (∀ e ∈ es, e.mute = true) /\ ScS ty P FinN s { c with deaf := deafBehind c.deaf es } g' w₁) : ScS ty P FinN s c g w := by
 classical
 refine ⟨.node { w₁ // Rely ty c w w₁ } fun x => (h x.1 x.2).choose_spec.choose_spec.2.2.choose, hr, ho, fun w₁ h₁ => ?_⟩
 have hx := (h w₁ h₁).choose_spec.choose_spec
 exact .inr (.inl ⟨hs, hu, ⟨w₁, h₁⟩, _, _, hx.1, hx.2.1, hx.2.2.choose_spec⟩)
theorem ord_still {c : Cfg} {w : World} {es : Array Event} (S : Snug c w) (h : ∀ e ∈ es, OkE c c w w e) (hd : ∀ (j : Nat) e x, es[j]? = some e -> (MemAct.ofEvent e).touch? = some x -> x.kind ≠ .atomic) :
   Ord ty c { c with deaf := deafBehind c.deaf es } w w es :=
 ⟨Nat.le_refl _, fun _ _ _ => rfl, fun a _ _ => .refl a w, fun _ _ h => h, rfl, rfl, rfl, h, fun j e x h1 h2 h3 => absurd h3 (hd j e x h1 h2), rfl, rfl, fun a ha => ⟨.inl ha, S.low a (.inl ha)⟩, fun a ha => ⟨.inl ha, S.low a (.inr ha)⟩, rfl, rfl, rfl, rfl, .inl rfl⟩
theorem ord_none {c : Cfg} {w : World} (S : Snug c w) : Ord ty c c w w #[] := by
 have := ord_still (ty := ty) (es := #[]) S (fun e he => by simp at he) (fun j e x h => by simp at h)
 exact this
theorem goes_scs {Stop : Goroutine -> World -> Prop} {s : Stg} {c : Cfg} (hs : s.early = true ∨ (s.early = false /\ ∃ z v, c.up = some (z, v))) (K : ∀ g w, g.offers = none -> Stop g w -> Snug c w -> ScS ty P FinN s c g w) :
   ∀ (n : Nat) (g : Goroutine) (w : World), g.offers = none -> Snug c w -> Goes P c.main (Rely ty c) DC0 Stop n g w -> ScS ty P FinN s c g w := by
 intro n
 induction n with
 | zero => exact fun g w ho S h => K g w ho (h w (Rely.refl ty c w)) S
 | succ n ih =>
   intro g w ho S h
   rcases h with h | ⟨hr, h⟩
   · exact K g w ho (h w (Rely.refl ty c w)) S
   have key : ∀ w₁, Rely ty c w w₁ -> ∃ g', stepG P c.main g w₁ = .go g' w₁ #[] /\ ScS ty P FinN s c g' w₁ := by
     intro w₁ h₁
     have hx := h w₁ h₁
     cases hst : stepG P c.main g w₁ with
     | go g' w' es =>
       rw [hst, goes_go] at hx
       obtain ⟨⟨rfl, rfl⟩, hg⟩ := hx
       exact ⟨g', rfl, ih g' _ (stepG_offers hst) (S.rely h₁) hg⟩
     | _ => rw [hst] at hx; exact hx.elim
   rcases hs with hs | ⟨hs, hu⟩
   · refine ScS.ord hs hr ho fun w₁ h₁ => ?_
     obtain ⟨g', e, hg⟩ := key w₁ h₁
     exact ⟨g', w₁, #[], c, e, ord_none (S.rely h₁), hg⟩
   · refine ScS.idle hs hu hr ho fun w₁ h₁ => ?_
     obtain ⟨g', e, hg⟩ := key w₁ h₁
     exact ⟨g', #[], e, fun e he => by simp at he, hg⟩
theorem okE_mark {c c' : Cfg} {w w' : World} {m : Mark} (h1 : ∀ a, m ≠ .release a) (h2 : (MemAct.ofEvent ⟨.mark m, false, true⟩).touch? = none) (h3 : (MemAct.ofEvent ⟨.mark m, false, true⟩).low w'.heap.size) : OkE c c' w w' ⟨.mark m, false, true⟩ :=
 ⟨fun x hx => (by rw [h2] at hx; cases hx), h3, fun a h => h1 a (by simpa using h)⟩
theorem ScS.mark {s : Stg} {c : Cfg} {g : Goroutine} {w : World} {m : Mark} (hs : s.early = true) (hm : m = .disable ∨ m = .enable) (hr : g.status = .running) (ho : g.offers = none) (S : Snug c w)
   (h : ∀ w₁, Rely ty c w w₁ -> ∃ g', stepG P c.main g w₁ = .go g' w₁ #[mk m] /\ ScS ty P FinN s { c with deaf := deafBehind c.deaf #[mk m] } g' w₁) : ScS ty P FinN s c g w := by
 refine ScS.ord hs hr ho fun w₁ h₁ => ?_
 obtain ⟨g', e, hg⟩ := h w₁ h₁
 refine ⟨g', w₁, _, _, e, ord_still (S.rely h₁) (fun e he => ?_) (fun j e x h1 h2 => ?_), hg⟩
 · rw [Array.mem_singleton] at he
   subst he
   rcases hm with rfl | rfl <;> exact okE_mark (fun a h => by cases h) rfl trivial
 · have he := Array.mem_of_getElem? h1
   rw [Array.mem_singleton] at he
   subst he
   rcases hm with rfl | rfl <;> cases h2
theorem ScS.said {s : Stg} {c : Cfg} {g : Goroutine} {w : World} {m : Mark} {z i : Nat} (hs : s.early = true) (hm : m = .read ⟨z, i, none⟩ ∨ m = .write ⟨z, i, none⟩) (hz : c.cur = some z) (hr : g.status = .running) (ho : g.offers = none) (S : Snug c w)
   (h : ∀ w₁, Rely ty c w w₁ -> ∃ g', stepG P c.main g w₁ = .go g' w₁ #[mk m] /\ ScS ty P FinN s c g' w₁) : ScS ty P FinN s c g w := by
 refine ScS.ord hs hr ho fun w₁ h₁ => ?_
 obtain ⟨g', e, hg⟩ := h w₁ h₁
 have S1 := S.rely h₁
 have hd : deafBehind c.deaf #[mk m] = c.deaf := deafBehind_one (by rcases hm with rfl | rfl <;> simp [mk]) (by rcases hm with rfl | rfl <;> simp [mk]) _
 have hlow := (S1.cur z hz).1
 have O := ord_still (ty := ty) (es := #[mk m]) S1 (fun e he => by
   rw [Array.mem_singleton] at he
   subst he
   rcases hm with rfl | rfl
   · exact ⟨fun x hx => (by cases hx; exact ⟨_, rfl, hlow, .inr (.inr ⟨rfl, hz⟩)⟩), hlow, fun a h => by cases h⟩
   · exact ⟨fun x hx => (by cases hx; exact ⟨_, rfl, hlow, .inr (.inr ⟨rfl, hz⟩)⟩), hlow, fun a h => by cases h⟩) (fun j e x h1 h2 => by
   have he := Array.mem_of_getElem? h1
   rw [Array.mem_singleton] at he
   subst he
   rcases hm with rfl | rfl <;> cases h2 <;> simp)
 rw [hd] at O
 exact ⟨g', w₁, _, c, e, O, hg⟩
noncomputable def pickT (p : Tree -> Prop) : Tree := open Classical in if h : ∃ n, p n then h.choose else .node Empty fun x => x.elim
theorem pickT_spec {p : Tree -> Prop} (h : ∃ n, p n) : p (pickT p) := by
 unfold pickT
 rw [dif_pos h]
 exact h.choose_spec
variable (ty P FinN) in
noncomputable def all : Stg × Cfg × Goroutine × World -> Tree := fun x => pickT fun n => Script ty P FinN n x.1 x.2.1 x.2.2.1 x.2.2.2
theorem ScS.at {s : Stg} {c : Cfg} {g : Goroutine} {w : World} (h : ScS ty P FinN s c g w) : Script ty P FinN (all ty P FinN (s, c, g, w)) s c g w := pickT_spec (p := fun n => Script ty P FinN n s c g w) h
section
variable {s : Stg} {c : Cfg} {g : Goroutine} {w : World}
theorem ScS.add {z : Nat} (hr : g.status = .running) (ho : g.offers = none) (hp : c.pend = false) (hd : 0 < c.deaf) (hz : c.cur = some z)
   (h : ∀ w₁, Rely ty c w w₁ -> ∀ v : Nat, v < 2147483647 -> WgAt ty z w₁ (v * KK) 0 -> ∃ g', stepG P c.main g w₁ = .go g' (w₁.setCell (stA z) (.int .u64 ((v + 1 : Nat) * KK))) #[ConcR.rd (stA z), wr (stA z)] /\
       ScS ty P FinN .work { c with pend := true } g' (w₁.setCell (stA z) (.int .u64 ((v + 1 : Nat) * KK)))) : ScS ty P FinN .work c g w :=
 ⟨.node _ (all ty P FinN), hr, ho, fun w₁ h₁ => .inr (.inr (.inl ⟨rfl, hp, hd, z, hz, fun v hv hw => let ⟨g', e, hg⟩ := h w₁ h₁ v hv hw; ⟨_, g', e, hg.at⟩⟩))⟩
theorem ScS.spawn {z : Nat} (hr : g.status = .running) (ho : g.offers = none) (hp : c.pend = true) (hd : c.deaf = 0) (hk : c.kids.length < 1000) (hz : c.cur = some z)
   (h : ∀ w₁, Rely ty c w w₁ -> ∃ (g' child : Goroutine) (o r o' r' : Perm) (v : Vow), stepG P c.main g w₁ = .spawn g' child w₁ #[] /\ child.status = .running /\
       (∀ a, o a -> c.own a) /\ (∀ a, o' a -> c.own a /\ ¬ o a /\ ¬ r a) /\ (∀ a, r a -> (c.own a ∨ c.rd a) /\ ¬ o' a) /\ (∀ a, r' a -> (c.own a ∨ c.rd a) /\ ¬ o a) /\
       ScS ty P FinN .work { main := false, own := o, rd := r, deaf := 0, cur := none, pend := false, ub := 0, kids := [], up := some (z, v) } child w₁ /\
       ScS ty P FinN .work { c with own := o', rd := r', pend := false, ub := c.ub + 1, kids := v :: c.kids } g' w₁) : ScS ty P FinN .work c g w :=
 ⟨.node _ (all ty P FinN), hr, ho, fun w₁ h₁ => .inr (.inr (.inr (.inl (let ⟨g', ch, o, r, o', r', v, e, hc, h1, h2, h3, h4, h5, h6⟩ := h w₁ h₁; ⟨rfl, hp, hd, hk, z, hz, _, _, g', ch, o, r, o', r', v, e, hc, h1, h2, h3, h4, h5.at, h6.at⟩))))⟩
theorem ScS.wait {z : Nat} (hr : g.status = .running) (ho : g.offers = none) (hp : c.pend = false) (hd : 0 < c.deaf) (hz : c.cur = some z)
   (h : ∀ w₁, Rely ty c w w₁ -> ∀ v : Nat, v <= c.ub -> WgAt ty z w₁ (v * KK) 0 -> ∃ g', stepG P c.main g w₁ = .go g' w₁ #[ConcR.rd (stA z)] /\ ScS ty P FinN (if v = 0 then .awake else .cas v) { c with ub := v } g' w₁) : ScS ty P FinN .work c g w :=
 ⟨.node _ (all ty P FinN), hr, ho, fun w₁ h₁ => .inr (.inr (.inr (.inr (.inl ⟨rfl, hp, hd, z, hz, fun v hv hw => let ⟨g', e, hg⟩ := h w₁ h₁ v hv hw; ⟨_, g', e, hg.at⟩⟩))))⟩
theorem ScS.cas {z vs : Nat} (hr : g.status = .running) (ho : g.offers = none) (hd : 0 < c.deaf) (hz : c.cur = some z)
   (h : ∀ w₁, Rely ty c w w₁ -> ∀ v : Nat, v <= vs -> WgAt ty z w₁ (v * KK) 0 ->
       (v = vs -> ∃ g', stepG P c.main g w₁ = .go g' (w₁.setCell (stA z) (.int .u64 (v * KK + 1))) #[ConcR.rd (stA z), wr (stA z)] /\ ScS ty P FinN .reg c g' (w₁.setCell (stA z) (.int .u64 (v * KK + 1)))) /\
       (v ≠ vs -> ∃ g', stepG P c.main g w₁ = .go g' w₁ #[ConcR.rd (stA z)] /\ ScS ty P FinN .work { c with ub := vs - 1 } g' w₁)) : ScS ty P FinN (.cas vs) c g w :=
 ⟨.node _ (all ty P FinN), hr, ho, fun w₁ h₁ => .inr (.inr (.inr (.inr (.inr (.inl ⟨vs, rfl, hd, z, hz, fun v hv hw => ⟨fun e => let ⟨g', e, hg⟩ := (h w₁ h₁ v hv hw).1 e; ⟨_, g', e, hg.at⟩, fun e => let ⟨g', e, hg⟩ := (h w₁ h₁ v hv hw).2 e; ⟨_, g', e, hg.at⟩⟩⟩)))))⟩
theorem ScS.reg {z : Nat} (hr : g.status = .running) (ho : g.offers = none) (hz : c.cur = some z)
   (h : ∀ w₁, Rely ty c w w₁ -> ((∃ st, WgAt ty z w₁ st 0) -> stepG P c.main g w₁ = .go { g with status := .blocked } w₁ #[]) /\
       (WgAt ty z w₁ 0 1 -> ∃ g', stepG P c.main g w₁ = .go g' (w₁.setCell (smA z) (.int .u32 0)) (semEvents (smA z)) /\ ScS ty P FinN .awake c g' (w₁.setCell (smA z) (.int .u32 0)))) : ScS ty P FinN .reg c g w :=
 ⟨.node _ (all ty P FinN), hr, ho, fun w₁ h₁ => .inr (.inr (.inr (.inr (.inr (.inr (.inl ⟨rfl, z, hz, (h w₁ h₁).1, fun hw => let ⟨g', e, hg⟩ := (h w₁ h₁).2 hw; ⟨_, g', e, hg.at⟩⟩))))))⟩
theorem ScS.awake {z : Nat} (hr : g.status = .running) (ho : g.offers = none) (hd : 0 < c.deaf) (hz : c.cur = some z)
   (h : ∀ w₁, Rely ty c w w₁ -> WgAt ty z w₁ 0 0 -> ∃ g', stepG P c.main g w₁ = .go g' w₁ #[ConcR.rd (stA z)] /\ ScS ty P FinN .awake c g' w₁) : ScS ty P FinN .awake c g w :=
 ⟨.node _ (all ty P FinN), hr, ho, fun w₁ h₁ => .inr (.inr (.inr (.inr (.inr (.inr (.inr (.inl ⟨rfl, hd, z, hz, fun hw => let ⟨g', e, hg⟩ := h w₁ h₁ hw; ⟨_, g', e, hg.at⟩⟩)))))))⟩
theorem ScS.acquired {z : Nat} (hr : g.status = .running) (ho : g.offers = none) (hd : c.deaf = 0) (hz : c.cur = some z)
   (h : ∀ w₁, Rely ty c w w₁ -> ∃ g', stepG P c.main g w₁ = .go g' w₁ #[mk (.acquire (stA z))] /\
       ∀ l : List (Perm × Perm), l.length = c.kids.length -> (∀ x ∈ l.zip c.kids, x.2.ok x.1.1 x.1.2 w₁) -> ScS ty P FinN .work { c with own := fun a => c.own a ∨ anyOf l (·.1) a, rd := fun a => c.rd a ∨ anyOf l (·.2) a, cur := none, ub := 0, kids := [] } g' w₁) : ScS ty P FinN .awake c g w :=
 ⟨.node _ (all ty P FinN), hr, ho, fun w₁ h₁ => .inr (.inr (.inr (.inr (.inr (.inr (.inr (.inr (.inl (let ⟨g', e, hg⟩ := h w₁ h₁; ⟨rfl, hd, z, hz, g', e, fun l hl hx => ⟨_, (hg l hl hx).at⟩⟩)))))))))⟩
theorem ScS.says {z : Nat} {v : Vow} (hr : g.status = .running) (ho : g.offers = none) (hc : c.cur = none) (hd : c.deaf = 0) (hu : c.up = some (z, v))
   (h : ∀ w₁, Rely ty c w w₁ -> v.ok c.own c.rd w₁ /\ ∃ g', stepG P c.main g w₁ = .go g' w₁ #[mk (.releaseMerge (stA z))] /\ ScS ty P FinN .rel { c with own := fun _ => False, rd := fun _ => False } g' w₁) : ScS ty P FinN .work c g w :=
 ⟨.node _ (all ty P FinN), hr, ho, fun w₁ h₁ => .inr (.inr (.inr (.inr (.inr (.inr (.inr (.inr (.inr (.inl (let ⟨hv, g', e, hg⟩ := h w₁ h₁; ⟨rfl, hc, hd, z, v, hu, hv, _, g', e, hg.at⟩))))))))))⟩
theorem ScS.done {z : Nat} {v : Vow} (hr : g.status = .running) (ho : g.offers = none) (hd : 0 < c.deaf) (hu : c.up = some (z, v))
   (h : ∀ w₁, Rely ty c w w₁ -> ∀ v wt : Nat, wt <= 1 -> v < 2147483647 -> WgAt ty z w₁ ((v + 1 : Nat) * KK + wt) 0 ->
       ∃ g', stepG P c.main g w₁ = .go g' (w₁.setCell (stA z) (.int .u64 (v * KK + wt))) #[ConcR.rd (stA z), wr (stA z)] /\
         ((v = 0 /\ wt = 1) -> ScS ty P FinN .last4 c g' (w₁.setCell (stA z) (.int .u64 (v * KK + wt)))) /\ (¬ (v = 0 /\ wt = 1) -> ∃ q, QuitsD P q c.deaf g')) : ScS ty P FinN .rel c g w :=
 ⟨.node _ (all ty P FinN), hr, ho, fun w₁ h₁ => .inr (.inr (.inr (.inr (.inr (.inr (.inr (.inr (.inr (.inr (.inl ⟨rfl, hd, z, v, hu, fun v wt h1 h2 h3 => let ⟨g', e, h4, h5⟩ := h w₁ h₁ v wt h1 h2 h3; ⟨g', e, fun x => ⟨_, (h4 x).at⟩, h5⟩⟩))))))))))⟩
theorem ScS.last4 {z : Nat} {v : Vow} (hr : g.status = .running) (ho : g.offers = none) (hd : 0 < c.deaf) (hu : c.up = some (z, v))
   (h : ∀ w₁, Rely ty c w w₁ -> WgAt ty z w₁ 1 0 -> ∃ g', stepG P c.main g w₁ = .go g' w₁ #[ConcR.rd (stA z)] /\ ScS ty P FinN .last3 c g' w₁) : ScS ty P FinN .last4 c g w :=
 ⟨.node _ (all ty P FinN), hr, ho, fun w₁ h₁ => .inr (.inr (.inr (.inr (.inr (.inr (.inr (.inr (.inr (.inr (.inr (.inl ⟨rfl, hd, z, v, hu, fun hw => let ⟨g', e, hg⟩ := h w₁ h₁ hw; ⟨_, g', e, hg.at⟩⟩)))))))))))⟩
theorem ScS.last3 {z : Nat} {v : Vow} (hr : g.status = .running) (ho : g.offers = none) (hd : 0 < c.deaf) (hu : c.up = some (z, v))
   (h : ∀ w₁, Rely ty c w w₁ -> WgAt ty z w₁ 1 0 -> ∃ g', stepG P c.main g w₁ = .go g' (w₁.setCell (stA z) (.int .u64 0)) #[wr (stA z)] /\ ScS ty P FinN .last2 c g' (w₁.setCell (stA z) (.int .u64 0))) : ScS ty P FinN .last3 c g w :=
 ⟨.node _ (all ty P FinN), hr, ho, fun w₁ h₁ => .inr (.inr (.inr (.inr (.inr (.inr (.inr (.inr (.inr (.inr (.inr (.inr (.inl ⟨rfl, hd, z, v, hu, fun hw => let ⟨g', e, hg⟩ := h w₁ h₁ hw; ⟨_, g', e, hg.at⟩⟩))))))))))))⟩
theorem ScS.last2 {z : Nat} {v : Vow} (hr : g.status = .running) (ho : g.offers = none) (hm : mayWake P g = true) (hu : c.up = some (z, v))
   (h : ∀ w₁, Rely ty c w w₁ -> WgAt ty z w₁ 0 0 -> ∃ g', stepG P c.main g w₁ = .go g' (w₁.setCell (smA z) (.int .u32 1)) (semEvents (smA z)) /\ g'.status = .running /\ ∃ q, QuitsD P q c.deaf g') : ScS ty P FinN .last2 c g w :=
 ⟨.node _ (all ty P FinN), hr, ho, fun w₁ h₁ => .inr (.inr (.inr (.inr (.inr (.inr (.inr (.inr (.inr (.inr (.inr (.inr (.inr (.inl ⟨rfl, hm, z, v, hu, h w₁ h₁⟩)))))))))))))⟩
theorem ScS.fin (hr : g.status = .running) (ho : g.offers = none) (hm : c.main = true) (hc : c.cur = none) (hd : c.deaf = 0) (h : ∀ w₁, Rely ty c w w₁ -> FinN c.own c.rd g w₁) : ScS ty P FinN .work c g w :=
 ⟨.node _ (all ty P FinN), hr, ho, fun w₁ h₁ => .inr (.inr (.inr (.inr (.inr (.inr (.inr (.inr (.inr (.inr (.inr (.inr (.inr (.inr ⟨rfl, hm, hc, hd, h w₁ h₁⟩)))))))))))))⟩
end
end
end Go.Nest
namespace Go.Nest
open Go Go.Conc Go.Eq Go.RowKit Go.Conc.Lib Go.ConcR.Gen Go.ConcN.Gen
open Go.ConcR (KK WgAt stA smA rd wr mk DC0)
open Go.ConcN (WgLive st_flag st_waiters)
abbrev cf (c0 : Cfg) (d : Nat) (p : Bool) (u : Nat) : Cfg := { c0 with deaf := d, pend := p, ub := u }
def Fz (ty : TypeId) (c0 : Cfg) (z : Nat) (w0 w : World) : Prop := Rely ty c0 w0 w /\ WgLive ty z w /\ Snug c0 w
section
variable {ty : TypeId} {P : Program} {FinN : Perm -> Perm -> Goroutine -> World -> Prop} {c0 : Cfg} {z : Nat} {w0 : World}
theorem Rely.cf {c0 : Cfg} {w w₁ : World} {d u : Nat} {p : Bool} (r : Rely ty (cf c0 d p u) w w₁) : Rely ty c0 w w₁ := ⟨r.size, r.same, r.shape, r.cur, r.up, r.os, r.tape, r.output⟩
theorem _root_.Go.Eq.Snug.cf {w : World} {d u : Nat} {p : Bool} (s : Snug c0 w) : Snug (cf c0 d p u) w := ⟨s.low, s.cur, s.up⟩
theorem fz_rely {d u : Nat} {p : Bool} (hz : c0.cur = some z) {w w₁ : World} (h : Fz ty c0 z w0 w) (r : Rely ty (cf c0 d p u) w w₁) : Fz ty c0 z w0 w₁ :=
 ⟨Rely.trans ty h.1 r.cf, r.cf.cur z hz h.2.1, h.2.2.rely r.cf⟩
theorem rely_group {c : Cfg} {z i : Nat} {v : Value} {w : World} (S : Snug c w) (hz : c.cur = some z ∨ ∃ x, c.up = some (z, x)) (hl : WgLive ty z (w.setCell ⟨z, i, none⟩ v)) (hl2 : WgLive ty z w) : Rely ty c w (w.setCell ⟨z, i, none⟩ v) := by
 have hno : ∀ a : Addr, a.block = z -> ¬ (c.own a ∨ c.rd a) := by
   rcases hz with h | ⟨x, h⟩
   · exact (S.cur z h).2
   · exact (S.up z x h).2
 have hne : ∀ b, b ≠ z -> (w.setCell ⟨z, i, none⟩ v).heap[b]? = w.heap[b]? := fun b hb => modify_ne hb
 have hlive : ∀ z', WgLive ty z' w -> WgLive ty z' (w.setCell ⟨z, i, none⟩ v) := fun z' h => by
   by_cases e : z' = z
   · subst e; exact hl
   · obtain ⟨st, sm, h1⟩ := h
     exact ⟨st, sm, (hne z' e).trans h1⟩
 refine ⟨by simp [World.setCell], fun a ha => same_of_heap (hne _ fun e => hno a e ha), fun b s h => ?_, fun z' _ => hlive z', fun z' _ _ => hlive z', rfl, rfl, rfl⟩
 by_cases e : b = z
 · subst e
   obtain ⟨st, sm, h1⟩ := hl
   obtain ⟨st2, sm2, h2⟩ := hl2
   simp only [World.shape?] at h ⊢
   rw [show (w.setCell ⟨b, i, none⟩ v).heap[b]? = _ from h1]
   rw [show w.heap[b]? = _ from h2] at h
   exact h
 · simp only [World.shape?] at h ⊢
   rw [hne b e]; exact h
theorem fz_st {v : Int} (hz : c0.cur = some z) {w : World} {st sm : Int} (h : Fz ty c0 z w0 w) (hw : WgAt ty z w st sm) : Fz ty c0 z w0 (w.setCell (stA z) (.int .u64 v)) := by
 have hl : WgLive ty z (w.setCell (stA z) (.int .u64 v)) := ⟨_, _, hw.setSt v⟩
 have hr : Rely ty c0 w (w.setCell (stA z) (.int .u64 v)) := rely_group h.2.2 (.inl hz) hl h.2.1
 exact ⟨Rely.trans ty h.1 hr, hl, h.2.2.rely hr⟩
theorem fz_sm {v : Int} (hz : c0.cur = some z) {w : World} {st sm : Int} (h : Fz ty c0 z w0 w) (hw : WgAt ty z w st sm) : Fz ty c0 z w0 (w.setCell (smA z) (.int .u32 v)) := by
 have hl : WgLive ty z (w.setCell (smA z) (.int .u32 v)) := ⟨_, _, hw.setSm v⟩
 have hr : Rely ty c0 w (w.setCell (smA z) (.int .u32 v)) := rely_group h.2.2 (.inl hz) hl h.2.1
 exact ⟨Rely.trans ty h.1 hr, hl, h.2.2.rely hr⟩
theorem goes_run (n : Nat) {s : Stg} {c : Cfg} (hs : s.early = true ∨ (s.early = false /\ ∃ z v, c.up = some (z, v))) {g : Goroutine} {w : World} (ho : g.offers = none) (S : Snug c w) (h : Goes P c.main (Rely ty c) DC0 (ScS ty P FinN s c) n g w) : ScS ty P FinN s c g w :=
 goes_scs hs (fun _ _ _ h _ => h) n g w ho S h
end
section
variable {L : WgLink} {P : Program} {FinN : Perm -> Perm -> Goroutine -> World -> Prop} {c0 : Cfg} {z u : Nat} {w0 : World} {b₀ : Frame} {a₀ : Act} {ops₀ : Array Oper} {i₀ : Nat} {rest₀ : List Nat} {k₀ : List Item} {cs : List Frame}
set_option maxRecDepth 100000 in
set_option maxHeartbeats 8000000 in
theorem addS (H : WgLib P L) (hz : c0.cur = some z) (K : ∀ w', Fz L.tWg c0 z w0 w' -> ScS L.tWg P FinN .work (cf c0 0 true u) (G (b₀.at (a₀.put ((ops₀[i₀]?).bind (·.dst)) (.tuple #[])) (.inRegion ops₀ rest₀ :: k₀)) cs) w') (w : World) (hF : Fz L.tWg c0 z w0 w) :
   ScS L.tWg P FinN .work (cf c0 0 false u) (G ((base L.add).at ⟨#[.pointer (some ⟨z, 0, none⟩), .int .i64 1, undef, undef, undef, undef, undef, undef, undef, undef, undef, undef, undef, undef, undef, undef, undef, undef, undef, undef, undef, undef, undef, undef, undef, undef, undef, undef, undef, undef, undef, undef, undef, undef, undef, undef, undef, undef, undef, undef, undef, undef, undef, undef, undef, undef, undef, undef, undef, undef, undef, undef, undef, undef, undef, undef, undef, undef, undef, undef, undef, undef, undef, undef, undef, undef, undef, undef, undef, undef, undef, undef, undef, undef, undef, undef, undef, undef, undef, undef, undef, undef, undef, undef, undef, undef, undef, undef, undef, undef, undef, undef, undef, undef, undef, undef, undef, undef, undef, undef, undef, undef, undef, undef, undef, undef, undef, undef, undef, undef, undef, undef, undef, undef, undef, undef, undef], []⟩ [.code (body_add L)]) (b₀.at a₀ (.inRegion ops₀ (i₀ :: rest₀) :: k₀) :: cs)) w := by
 lib_facts
 simp only [body_add, addFn, Option.getD_some]
 refine goes_run 20 (.inl rfl) rfl hF.2.2.cf ?_
 u_c stepG_seq (fz_rely hz) hF
 u_cond true (fz_rely hz) hF
 u_c stepG_seq (fz_rely hz) hF
 u_c stepG_seq (fz_rely hz) hF
 u_reg (fz_rely hz) hF
 u_op (fz_rely hz) hF
 u_op (fz_rely hz) hF
 u_c stepG_region_end (fz_rely hz) hF
 u_cond false (fz_rely hz) hF
 u_c stepG_skip (fz_rely hz) hF
 u_c stepG_seq (fz_rely hz) hF
 u_reg (fz_rely hz) hF
 refine Goes.stop (fun w₁ h₁ => ?_)
 replace hF := (fz_rely hz) hF h₁
 clear h₁
 refine ScS.mark rfl (.inl rfl) rfl rfl hF.2.2.cf (fun w₁ h₁ => ⟨_, stepG_mark0 .disable (by simp) rfl rfl (by k_ne) rfl H.f_disable (x_disable_n L) (x_disable_b L) (x_disable_x L) (x_disable_f L), ?_⟩)
 replace hF := (fz_rely hz) hF h₁
 clear h₁ w
 walk_nrm
 show ScS L.tWg P FinN .work (cf c0 1 false u) _ _
 refine goes_run 60 (.inl rfl) rfl hF.2.2.cf ?_
 u_c stepG_region_end (fz_rely hz) hF
 u_reg (fz_rely hz) hF
 u_defer (fz_rely hz) hF
 u_c stepG_region_end (fz_rely hz) hF
 u_c stepG_seq (fz_rely hz) hF
 u_reg (fz_rely hz) hF
 u_op (fz_rely hz) hF
 u_c stepG_region_end (fz_rely hz) hF
 u_c stepG_seq (fz_rely hz) hF
 u_c stepG_seq (fz_rely hz) hF
 u_reg (fz_rely hz) hF
 u_bub (fz_rely hz) hF
 u_c stepG_region_end (fz_rely hz) hF
 u_cond false (fz_rely hz) hF
 u_c stepG_skip (fz_rely hz) hF
 u_c stepG_seq (fz_rely hz) hF
 u_reg (fz_rely hz) hF
 u_op (fz_rely hz) hF
 u_op (fz_rely hz) hF
 u_op (fz_rely hz) hF
 u_op (fz_rely hz) hF
 u_op (fz_rely hz) hF
 u_op (fz_rely hz) hF
 u_call H.f_uAdd (nm_uAdd L) uAddFn (fz_rely hz) hF
 u_c stepG_seq (fz_rely hz) hF
 u_reg (fz_rely hz) hF
 u_op (fz_rely hz) hF
 u_c stepG_region_end (fz_rely hz) hF
 u_c stepG_seq (fz_rely hz) hF
 u_reg (fz_rely hz) hF
 u_op (fz_rely hz) hF
 u_op (fz_rely hz) hF
 u_op (fz_rely hz) hF
 u_op (fz_rely hz) hF
 refine Goes.stop (fun w₁ h₁ => ?_)
 replace hF := (fz_rely hz) hF h₁
 clear h₁
 refine ScS.add rfl rfl rfl (Nat.zero_lt_one) hz (fun w₁ h₁ v hv hw => ?_)
 replace hF := (fz_rely hz) hF h₁
 clear h₁
 rcases Nat.eq_zero_or_pos v with rfl | hvp
 · replace hw : WgAt L.tWg z w₁ 0 0 := by simpa using hw
   have zz : (((0 + 1 : Nat)) : Int) * KK = KK := by simp
   rw [zz]
   have e0 : IntKind.u64.wrap (0 + 4294967296) = KK := by decide
   refine ⟨_, (stepG_add_atomic rfl rfl (by k_ne) rfl H.f_addU64 (x_addU64_n L) (x_addU64_b L) (x_addU64_x L) .u64 (x_addU64_f L) rfl rfl hw.cellSt (hw.thaw 0)).trans (by rw [e0]; rfl), ?_⟩
   replace hF := fz_st (v := KK) hz hF hw
   clear hw
   simp only [KK] at hF ⊢
   walk_nrm
   show ScS L.tWg P FinN .work (cf c0 1 true u) _ _
   refine goes_run 60 (.inl rfl) rfl hF.2.2.cf ?_
   u_op (fz_rely hz) hF
   u_c stepG_region_end (fz_rely hz) hF
   u_c stepG_ret' (fz_rely hz) hF
   u_leave1 H.f_uAdd (fz_rely hz) hF
   u_op (fz_rely hz) hF
   u_c stepG_region_end (fz_rely hz) hF
   u_c stepG_seq (fz_rely hz) hF
   u_c stepG_seq (fz_rely hz) hF
   u_reg (fz_rely hz) hF
   u_op (fz_rely hz) hF
   u_op (fz_rely hz) hF
   u_op (fz_rely hz) hF
   u_op (fz_rely hz) hF
   u_skip (fz_rely hz) hF
   u_skip (fz_rely hz) hF
   u_op (fz_rely hz) hF
   u_c stepG_region_end (fz_rely hz) hF
   u_cond false (fz_rely hz) hF
   u_c stepG_skip (fz_rely hz) hF
   u_c stepG_seq (fz_rely hz) hF
   u_reg (fz_rely hz) hF
   u_op (fz_rely hz) hF
   u_op (fz_rely hz) hF
   u_op (fz_rely hz) hF
   u_op (fz_rely hz) hF
   u_c stepG_region_end (fz_rely hz) hF
   u_c stepG_seq (fz_rely hz) hF
   u_reg (fz_rely hz) hF
   u_op (fz_rely hz) hF
   u_op (fz_rely hz) hF
   u_op (fz_rely hz) hF
   u_op (fz_rely hz) hF
   u_c stepG_region_end (fz_rely hz) hF
   u_c stepG_seq (fz_rely hz) hF
   u_c stepG_seq (fz_rely hz) hF
   u_reg (fz_rely hz) hF
   u_op (fz_rely hz) hF
   u_op (fz_rely hz) hF
   u_op (fz_rely hz) hF
   u_op (fz_rely hz) hF
   u_op (fz_rely hz) hF
   u_op (fz_rely hz) hF
   u_op (fz_rely hz) hF
   u_op (fz_rely hz) hF
   u_op (fz_rely hz) hF
   u_op (fz_rely hz) hF
   u_c stepG_region_end (fz_rely hz) hF
   u_cond true (fz_rely hz) hF
   u_reg (fz_rely hz) hF
   u_op (fz_rely hz) hF
   u_op (fz_rely hz) hF
   u_op (fz_rely hz) hF
   u_conv H.underlying_tPU32 H.room_tU32 (WgLive.cell1 hF.2.1).choose_spec (fz_rely hz) hF
   refine Goes.stop (fun w₁ h₁ => ?_)
   replace hF := (fz_rely hz) hF h₁
   clear h₁
   refine ScS.said (i := 1) rfl (.inl rfl) hz rfl rfl hF.2.2.cf (fun w₁ h₁ => ⟨_, stepG_markAt .read (by simp) rfl rfl (by k_ne) rfl H.f_raceRead (x_raceRead_n L) (x_raceRead_b L) (x_raceRead_x L) (x_raceRead_f L) (ad := ⟨z, 1, none⟩) (by simp [Act.eval]), ?_⟩)
   replace hF := (fz_rely hz) hF h₁
   clear h₁
   walk_nrm
   refine goes_run 60 (.inl rfl) rfl hF.2.2.cf ?_
   u_c stepG_region_end (fz_rely hz) hF
   u_c stepG_seq (fz_rely hz) hF
   u_c stepG_seq (fz_rely hz) hF
   u_reg (fz_rely hz) hF
   u_op (fz_rely hz) hF
   u_op (fz_rely hz) hF
   u_c stepG_region_end (fz_rely hz) hF
   u_cond false (fz_rely hz) hF
   u_c stepG_skip (fz_rely hz) hF
   u_c stepG_seq (fz_rely hz) hF
   u_c stepG_seq (fz_rely hz) hF
   u_reg (fz_rely hz) hF
   u_op (fz_rely hz) hF
   u_op (fz_rely hz) hF
   u_op (fz_rely hz) hF
   u_skip (fz_rely hz) hF
   u_skip (fz_rely hz) hF
   u_op (fz_rely hz) hF
   u_op (fz_rely hz) hF
   u_skip (fz_rely hz) hF
   u_skip (fz_rely hz) hF
   u_skip (fz_rely hz) hF
   u_skip (fz_rely hz) hF
   u_op (fz_rely hz) hF
   u_c stepG_region_end (fz_rely hz) hF
   u_cond false (fz_rely hz) hF
   u_c stepG_skip (fz_rely hz) hF
   u_c stepG_seq (fz_rely hz) hF
   u_c stepG_seq (fz_rely hz) hF
   u_reg (fz_rely hz) hF
   u_op (fz_rely hz) hF
   u_op (fz_rely hz) hF
   u_op (fz_rely hz) hF
   u_skip (fz_rely hz) hF
   u_skip (fz_rely hz) hF
   u_op (fz_rely hz) hF
   u_c stepG_region_end (fz_rely hz) hF
   u_cond true (fz_rely hz) hF
   u_c stepG_ret' (fz_rely hz) hF
   refine Goes.stop (fun w₁ h₁ => ?_)
   replace hF := (fz_rely hz) hF h₁
   clear h₁
   refine ScS.mark rfl (.inr rfl) rfl rfl hF.2.2.cf (fun w₁ h₁ => ⟨_, stepG_unwind_entry (v := .tuple #[]) (evs := #[mk .enable]) rfl H.f_enable (x_enable_n L) (x_enable_b L) (x_enable_x L) (x_enable_f L) (by simp [Extern.Race.none_]) (by simp [mk]) (by simp [mk]), ?_⟩)
   replace hF := (fz_rely hz) hF h₁
   clear h₁
   show ScS L.tWg P FinN .work (cf c0 0 true u) _ _
   refine goes_run 3 (.inl rfl) rfl hF.2.2.cf ?_
   u_leave0 H.f_add (fz_rely hz) hF
   refine Goes.stop (fun w₁ h₁ => ?_)
   replace hF := (fz_rely hz) hF h₁
   clear h₁
   exact K _ hF
 · obtain ⟨V, hV⟩ : ∃ V : Int, V = (v : Int) + 1 := ⟨_, rfl⟩
   obtain ⟨S, hS⟩ : ∃ S : Int, S = V * KK := ⟨_, rfl⟩
   have eS : IntKind.u64.wrap ((v : Int) * KK + 4294967296) = S := by rw [IntKind.wrap_u64, hS, hV]; simp only [KK]; omega
   have eV : ((v + 1 : Nat) : Int) * KK = S := by rw [hS, hV]; simp
   rw [eV]
   have a1 : S / 4294967296 = V := by rw [hS]; simp only [KK]; omega
   have b1 : bits .and .u64 S 2147483648 = 0 := by rw [hS, hV]; have := st_flag (v + 1) 0 (by omega) (by omega); simpa [KK] using this
   have b2 : bits .and .u64 S 2147483647 = 0 := by rw [hS, hV]; have := st_waiters (v + 1) 0 (by omega) (by omega); simpa [KK] using this
   have c1 : IntKind.i32.wrap V = V := by rw [IntKind.wrap_i32]; omega
   have hV1 : 1 < V := by omega
   have hV2 : V < 2147483648 := by omega
   have q1 : (V == 1) = false := by simp; omega
   have q2 : decide (V = 1) = false := decide_eq_false (by omega)
   have q3 : decide (V < 0) = false := decide_eq_false (by omega)
   have q4 : decide (0 < V) = true := decide_eq_true (by omega)
   have q5 : (V == 0) = false := by simp; omega
   have q6 : decide (V = 0) = false := decide_eq_false (by omega)
   refine ⟨_, (stepG_add_atomic rfl rfl (by k_ne) rfl H.f_addU64 (x_addU64_n L) (x_addU64_b L) (x_addU64_x L) .u64 (x_addU64_f L) rfl rfl hw.cellSt (hw.thaw 0)).trans (by rw [eS]; rfl), ?_⟩
   replace hF := fz_st (v := S) hz hF hw
   clear hw hS hV eS eV
   walk_nrm
   show ScS L.tWg P FinN .work (cf c0 1 true u) _ _
   refine goes_run 110 (.inl rfl) rfl hF.2.2.cf ?_
   u_op (fz_rely hz) hF
   u_c stepG_region_end (fz_rely hz) hF
   u_c stepG_ret' (fz_rely hz) hF
   u_leave1 H.f_uAdd (fz_rely hz) hF
   u_op (fz_rely hz) hF
   u_c stepG_region_end (fz_rely hz) hF
   u_c stepG_seq (fz_rely hz) hF
   u_c stepG_seq (fz_rely hz) hF
   u_reg (fz_rely hz) hF
   u_op (fz_rely hz) hF
   u_op (fz_rely hz) hF
   u_op (fz_rely hz) hF
   u_op (fz_rely hz) hF
   u_skip (fz_rely hz) hF
   u_skip (fz_rely hz) hF
   u_op (fz_rely hz) hF
   u_c stepG_region_end (fz_rely hz) hF
   u_cnd false (fz_rely hz) hF
   u_c stepG_skip (fz_rely hz) hF
   u_c stepG_seq (fz_rely hz) hF
   u_reg (fz_rely hz) hF
   u_op (fz_rely hz) hF
   u_op (fz_rely hz) hF
   u_op (fz_rely hz) hF
   u_op (fz_rely hz) hF
   u_c stepG_region_end (fz_rely hz) hF
   u_c stepG_seq (fz_rely hz) hF
   u_reg (fz_rely hz) hF
   u_op (fz_rely hz) hF
   u_op (fz_rely hz) hF
   u_op (fz_rely hz) hF
   u_op (fz_rely hz) hF
   u_c stepG_region_end (fz_rely hz) hF
   u_c stepG_seq (fz_rely hz) hF
   u_c stepG_seq (fz_rely hz) hF
   u_reg (fz_rely hz) hF
   u_op (fz_rely hz) hF
   u_op (fz_rely hz) hF
   u_op (fz_rely hz) hF
   u_op (fz_rely hz) hF
   u_op (fz_rely hz) hF
   u_op (fz_rely hz) hF
   u_op (fz_rely hz) hF
   u_op (fz_rely hz) hF
   u_op (fz_rely hz) hF
   u_op (fz_rely hz) hF
   u_c stepG_region_end (fz_rely hz) hF
   u_cnd false (fz_rely hz) hF
   u_c stepG_skip (fz_rely hz) hF
   u_c stepG_seq (fz_rely hz) hF
   u_c stepG_seq (fz_rely hz) hF
   u_reg (fz_rely hz) hF
   u_op (fz_rely hz) hF
   u_op (fz_rely hz) hF
   u_c stepG_region_end (fz_rely hz) hF
   u_cnd false (fz_rely hz) hF
   u_c stepG_skip (fz_rely hz) hF
   u_c stepG_seq (fz_rely hz) hF
   u_c stepG_seq (fz_rely hz) hF
   u_reg (fz_rely hz) hF
   u_op (fz_rely hz) hF
   u_op (fz_rely hz) hF
   u_op (fz_rely hz) hF
   u_skip (fz_rely hz) hF
   u_skip (fz_rely hz) hF
   u_op (fz_rely hz) hF
   u_op (fz_rely hz) hF
   u_skip (fz_rely hz) hF
   u_skip (fz_rely hz) hF
   u_skip (fz_rely hz) hF
   u_skip (fz_rely hz) hF
   u_op (fz_rely hz) hF
   u_c stepG_region_end (fz_rely hz) hF
   u_cnd false (fz_rely hz) hF
   u_c stepG_skip (fz_rely hz) hF
   u_c stepG_seq (fz_rely hz) hF
   u_c stepG_seq (fz_rely hz) hF
   u_reg (fz_rely hz) hF
   u_op (fz_rely hz) hF
   u_op (fz_rely hz) hF
   u_op (fz_rely hz) hF
   u_skip (fz_rely hz) hF
   u_skip (fz_rely hz) hF
   u_op (fz_rely hz) hF
   u_c stepG_region_end (fz_rely hz) hF
   u_cnd true (fz_rely hz) hF
   u_c stepG_ret' (fz_rely hz) hF
   refine Goes.stop (fun w₁ h₁ => ?_)
   replace hF := (fz_rely hz) hF h₁
   clear h₁
   refine ScS.mark rfl (.inr rfl) rfl rfl hF.2.2.cf (fun w₁ h₁ => ⟨_, stepG_unwind_entry (v := .tuple #[]) (evs := #[mk .enable]) rfl H.f_enable (x_enable_n L) (x_enable_b L) (x_enable_x L) (x_enable_f L) (by simp [Extern.Race.none_]) (by simp [mk]) (by simp [mk]), ?_⟩)
   replace hF := (fz_rely hz) hF h₁
   clear h₁
   show ScS L.tWg P FinN .work (cf c0 0 true u) _ _
   refine goes_run 3 (.inl rfl) rfl hF.2.2.cf ?_
   u_leave0 H.f_add (fz_rely hz) hF
   refine Goes.stop (fun w₁ h₁ => ?_)
   replace hF := (fz_rely hz) hF h₁
   clear h₁
   exact K _ hF
end
end Go.Nest
