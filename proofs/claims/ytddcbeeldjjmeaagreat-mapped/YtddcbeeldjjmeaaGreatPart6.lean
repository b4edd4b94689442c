/- A FUNCTION LEFT; A STEP WHATEVER IT BE; WHAT IS LOST STAYS LOST. -/
import Derived.Test.YtddcbeeldjjmeaaGreatPart5
import Derived.Calls
import Derived.Test.YtddcbeeldjjmeaaGreatPart3
namespace Go.Eq
open Go
section
variable [Env] [Runs] {P : Program} {π : Ren}
omit [Env] [Runs] in
theorem stepG_leaving {m l : Bool} {f : Frame} {cs : List Frame} {u : World} {fn : Func} (h : f.mode = .returning) (hd : f.defers = []) (hf : P.funcs[f.fn]? = some fn) (hk : f.kind = .normal) {b : Frame} {k : List Frame} (hc : cs = b :: k) :
   stepG P m (live f cs) u l = GStep.after (seen P f.fn ((results fn f.tmps).runT P u #[]).2) (match ((results fn f.tmps).runT P u #[]).1 with
     | .ok v w => .go (live (b.finish v) k) w
     | .halt (.stuck s) w => .ended (.stuck s (f.pos P)) w
     | .halt _ w => .ended (.stuck "return: the result variables cannot be read" (f.pos P)) w) := by
 subst hc
 unfold stepG live
 simp only [h]
 unfold unwind
 simp only [hd, h, hf]
 generalize (results fn f.tmps).runT P u #[] = r
 obtain ⟨r, es⟩ := r
 cases r with
 | ok v w => simp only [doReturn, hk]
 | halt hh w => cases hh <;> rfl
omit [Env] [Runs] in
theorem stepG_unwind {m l : Bool} {f : Frame} {cs : List Frame} {u : World} (h : f.mode ≠ .run) {r : Nat} {ds : List Deferred} (hd : f.defers = { target := .collected r, args := #[] } :: ds) :
   stepG P m (live f cs) u l = GStep.after (seen P f.fn ((Instr.takeDeferred r).runT P u #[]).2) (match ((Instr.takeDeferred r).runT P u #[]).1 with
     | .ok calls w => .go (live { f with defers := calls ++ ds } cs) w
     | .halt _ w => .ended (.stuck "the deferred calls of a range-over-func loop have been taken" (f.pos P)) w) := by
 have e : stepG P m (live f cs) u l = unwind P m f cs none u := by
   unfold stepG live
   cases hm : f.mode with
   | run => exact absurd hm h
   | returning => simp only [hm]
   | panicking _ => simp only [hm]
 rw [e]
 unfold unwind
 simp only [hd]
 rfl
theorem unwind_rel {m0 m l : Bool} {bs bs' : List Frame} {f f' : Frame} {cs cs' : List Frame} {u w : World} (h : FrRel P π f f') (hr : f.mode = .returning) (hc : FsRel P π bs bs' cs cs') (W : WRel π u w) (T : Tapes u w) (hd : f.defers ≠ []) : Out P m π bs bs' (live f' cs') w (stepG P m0 (live f cs) u l) := by
 have hdf := h.defers
 have hns := h.ns (.inl hd)
 cases h1 : f.defers with
 | nil => exact absurd h1 hd
 | cons d ds =>
   rw [h1] at hdf
   generalize h2 : f'.defers = dd at hdf
   cases hdf with
   | @cons r r' _ ds' e hds =>
     have hR := (r_takeDeferred (P := P) (π := π) hns.1 e).run #[] #[] W T (r := (Instr.takeDeferred r).run P u) (es' := ((Instr.takeDeferred r).runT P u #[]).2) (by rw [<- Sem.runT_fst (es := #[])])
     unfold Out
     rw [stepG_unwind (by rw [hr]; simp) h1, stepG_unwind (by rw [<- h.mode, hr]; simp) h2, Sem.runT_fst]
     refine Out2.after _ ?_
     cases hx : (Instr.takeDeferred r).run P u with
     | halt hh u' => exact trivial
     | ok v u1 =>
       rw [hx] at hR
       obtain ⟨⟨v', w1, π1, gs, r1, ⟨rfl, rfl⟩, r3, r4, r5⟩, -⟩ := hR
       rw [r1]
       have h3 := h.mono r5.le
       have hF : FrRel P π1 { f with defers := ds } { f' with defers := ds' } := ⟨h3.fn, h3.fnOk, h3.tmps, h3.todo, h3.dom, h3.fit, hds.mono r5.le, h3.mode, h3.live, h3.kind, h3.kind', h3.round, fun _ => hns⟩
       refine .inr ⟨_, w1, π1, gs, seen P f'.fn gs.toArray, ?_, fun e he => by simpa using Conc.mem_seen he, .inl ⟨_, _, _, _, rfl, rfl, hF, hc.mono r5.le⟩, r3, r4, r5⟩
       simp [GStep.after]
theorem leave_rel (_hb : BodiesOk P) {m0 m l : Bool} {b b' : Frame} {lr rr : List Frame} {f f' : Frame} {cs cs' : List Frame} {u w : World} (h : FrRel P π f f') (hr : f.mode = .returning) (hc : FsRel P π (b :: lr) (b' :: rr) cs cs') (W : WRel π u w) (T : Tapes u w) :
   Out P m π (b :: lr) (b' :: rr) (live f' cs') w (stepG P m0 (live f cs) u l) := by
 by_cases hd : f.defers = []
 · have hd' : f'.defers = [] := by
     have := h.defers
     rw [hd] at this
     generalize f'.defers = dd at this
     cases this; rfl
   have hro : f.roundOf = none := by rcases h.live with h | h; rw [hr] at h; cases h; exact h.2
   have hr' : f'.mode = .returning := h.mode ▸ hr
   obtain ⟨fn, h1⟩ := h.fnOk hro
   have hR := (r_results (P := P) (fn := fn) h.tmps).run #[] #[] W T (r := (results fn f.tmps).run P u) (es' := ((results fn f.tmps).runT P u #[]).2) (by rw [<- Sem.runT_fst (es := #[])])
   obtain ⟨c1, k1, hc1⟩ : ∃ c k, cs = c :: k := by cases hc; exact ⟨_, _, rfl⟩; exact ⟨_, _, rfl⟩
   obtain ⟨c2, k2, hc2⟩ : ∃ c k, cs' = c :: k := by cases hc; exact ⟨_, _, rfl⟩; exact ⟨_, _, rfl⟩
   rw [stepG_leaving hr hd h1 h.kind hc1]
   refine Out.after _ ?_
   rw [Sem.runT_fst]
   cases hL : (results fn f.tmps).run P u with
   | halt hh u' => cases hh <;> exact trivial
   | ok v u1 =>
     rw [hL] at hR
     obtain ⟨⟨v', w1, π1, gs, r1, r2, r3, r4, r5⟩, -⟩ := hR
     have hstep : stepG P m (live f' cs') w = .go (live (c2.finish v') k2) w1 (seen P f'.fn gs.toArray) := by
       rw [stepG_leaving hr' hd' (h.fn ▸ h1) h.kind' hc2, r1]
       simp [GStep.after]
     refine .inr ⟨_, w1, π1, gs, _, hstep, fun e he => by simpa using Conc.mem_seen he, ?_, r3, r4, r5⟩
     subst hc1 hc2
     have hcm := hc.mono r5.le
     cases hcm with
     | base => exact .inr ⟨b, lr, b', rr, v, v', rfl, rfl, r2, rfl, rfl⟩
     | cons a1 a2 => exact .inl ⟨_, _, _, _, rfl, rfl, a1.finish r2, a2⟩
 · exact unwind_rel h hr hc W T hd
theorem step_rel (ok : POk P) (hf : FnsOk P) (hb : BodiesOk P) {m0 m l : Bool} {b b' : Frame} {lr rr : List Frame} {g g' : Goroutine} {u w : World} (h : GRel P π (b :: lr) (b' :: rr) g g') (hno : Free g) (W : WRel π u w) (T : Tapes u w) :
   Out P m π (b :: lr) (b' :: rr) g' w (stepG P m0 g u l) := by
 obtain ⟨f, f', cs, cs', rfl, rfl, h1, h2⟩ := h
 rcases h1.live with hr | ⟨hr, -⟩
 · exact exec_rel ok hf hb h1 hno hr h2 (fun _ => by cases h2 <;> simp) (.inl (by simp)) W T
 · exact leave_rel hb h1 hr h2 W T
def door (P : Program) : Frame := { fn := P.funcs.size, tmps := #[], todo := [.call { target := .nil, args := #[] } false "fmt's door" #[]], defers := [], mode := .run, kind := .normal }
omit [Env] [Runs] in
theorem catches_door (f : Frame) (h1 : f.fn = (door P).fn) (h2 : f.todo = (door P).todo) : f.catches P = true := by
 unfold Frame.catches
 rw [h1, h2]
 have : P.funcs[(door P).fn]? = none := by simp [door]
 rw [this]
 simp [door]
def Gone (P : Program) (g : Goroutine) (u : World) : Prop :=
 ∃ f cs ch, g = live f cs /\ f.mode = .panicking ch /\ Mk u f.defers /\ (∀ c, c ∈ cs -> Mk u c.defers) /\ ((∃ ds, cs = ds ++ [door P]) ∨ f.catches P = true)
omit [Env] [Runs] in
theorem mk_taken {u : World} {r : Nat} {ds : List Deferred} (h : Mk u ds) : Mk { u with heap := u.heap.setIfInBounds r (.deferred none) } ds := fun d hd => by
 obtain ⟨q, e, hq⟩ := h d hd
 refine ⟨q, e, fun l hl => ?_⟩
 have hl : (u.heap.setIfInBounds r (.deferred none))[q]? = some (.deferred (some l)) := hl
 rw [Array.getElem?_setIfInBounds] at hl
 split at hl
 · split at hl <;> cases hl
 · exact hq l hl
omit [Env] [Runs] in
theorem gone_step {m l : Bool} {g : Goroutine} {u : World} (h : Gone P g u) : (∃ o w es, stepG P m g u l = .ended o w es /\ ∀ v, o ≠ .done v) ∨ ∃ g1 u1 es, stepG P m g u l = .go g1 u1 es /\ Gone P g1 u1 := by
 obtain ⟨f, cs, ch, rfl, h1, h2, h3, h4⟩ := h
 cases hdf : f.defers with
 | cons d ds =>
   obtain ⟨r, rfl, hr⟩ := h2 d (by rw [hdf]; exact List.mem_cons_self)
   have hds : Mk u ds := fun d hd => h2 d (by rw [hdf]; exact List.mem_cons_of_mem _ hd)
   rw [stepG_unwind (by rw [h1]; simp) hdf, Sem.runT_fst]
   have key : (∃ hh u', (Instr.takeDeferred r).run P u = .halt hh u') ∨ (Instr.takeDeferred r).run P u = .ok [] { u with heap := u.heap.setIfInBounds r (.deferred none) } := by
     unfold Instr.takeDeferred
     rw [Sem.run_bind]
     have e0 : (getObj r).run P u = match u.heap[r]? with
       | some (.cells ..) => .halt (.stuck "getObj: a row of cells") u
       | some o => .ok o u
       | none => .halt (.stuck "getObj: no such block") u := by
       unfold getObj
       simp only [Sem.run]
       cases u.heap[r]? with
       | none => rfl
       | some o => cases o <;> rfl
     rw [e0]
     cases ho : u.heap[r]? with
     | none => exact .inl ⟨_, _, rfl⟩
     | some o =>
       cases o with
       | deferred dd =>
         cases dd with
         | none => exact .inl ⟨_, _, rfl⟩
         | some l =>
           have := hr l ho
           subst this
           refine .inr ?_
           show ((setObj r (.deferred none)) >>= fun _ => pure []).run P u = _
           rw [Sem.run_bind]
           unfold setObj
           simp only [Sem.run, ho]
           rfl
       | _ => exact .inl ⟨_, _, rfl⟩
   rcases key with ⟨hh, u', e⟩ | e
   · rw [e]
     exact .inl ⟨_, _, _, rfl, fun v e => by cases e⟩
   · rw [e]
     exact .inr ⟨_, _, _, rfl, _, cs, ch, rfl, h1, mk_taken hds, fun c hc => mk_taken (h3 c hc), h4.imp id fun h => h⟩
 | nil =>
   by_cases hcat : f.catches P = true
   · refine .inl ⟨_, _, _, by unfold stepG live; simp only [h1]; unfold unwind; simp only [hdf, h1, hcat, if_true]; rfl, fun v e => by cases e⟩
   · rcases h4 with ⟨ds, rfl⟩ | h4
     · cases ds with
       | nil =>
         refine .inr ⟨live ((door P).raise ch) [], u, #[], by unfold stepG live; simp only [h1]; unfold unwind; simp only [hdf, h1, hcat]; rfl, ?_⟩
         exact ⟨_, [], ch, rfl, rfl, (fun d hd => nomatch hd), (fun c h => nomatch h), .inr (catches_door _ rfl rfl)⟩
       | cons d ds =>
         refine .inr ⟨live (d.raise ch) (ds ++ [door P]), u, #[], by unfold stepG live; simp only [h1]; unfold unwind; simp only [hdf, h1, hcat, List.cons_append]; rfl, ?_⟩
         have hd : Mk u (d.raise ch).defers := by
           have := h3 d (by simp)
           unfold Frame.raise
           split <;> exact this
         have hm : ∃ ch', (d.raise ch).mode = .panicking ch' := by
           unfold Frame.raise
           split
           · exact ⟨_, rfl⟩
           · exact ⟨_, rfl⟩
         obtain ⟨ch', hm⟩ := hm
         exact ⟨_, _, ch', rfl, hm, hd, fun c hc => h3 c (by simp only [List.cons_append, List.mem_cons]; exact .inr hc), .inl ⟨ds, rfl⟩⟩
     · exact absurd h4 hcat
end
section
variable [Env] [Runs] {P : Program} {π : Ren}
def Near (bs : List Frame) (u : World) (st : World -> GStep) : Prop :=
 ∀ g1 u1 es, st u = .go g1 u1 es -> Lost bs g1 u1 ∨ (u.drawn <= u1.drawn /\ u1.tape = u.tape /\ ∀ t : Nat -> Question -> Nat, (∀ d q, u.drawn <= d -> d < u1.drawn -> t d q = u.tape d q) -> st { u with tape := t } = .go g1 { u1 with tape := t } es)
omit [Env] [Runs] in
theorem near_still {bs : List Frame} {u : World} {st : World -> GStep} (g : Goroutine) (h : ∀ u, st u = .go g u) : Near bs u st := by
 intro g1 u1 es e
 rw [h] at e
 cases e
 exact .inr ⟨Nat.le_refl _, rfl, fun t _ => h _⟩
omit [Env] [Runs] in
theorem near_end {bs : List Frame} {u : World} {st : World -> GStep} {o : Outcome} {w : World} {es : Array Event} (h : st u = .ended o w es) : Near bs u st := by
 intro g1 u1 es e
 rw [h] at e
 cases e
theorem apply_near {l : Bool} {bs bs' : List Frame} {f f' : Frame} {cs cs' : List Frame} {u w : World} {s s' : Sem Next} (hf : FrRel P π f f') (hr : f.mode = .run) (hc : FsRel P π bs bs' cs cs') (W : WRel π u w) (T : Tapes u w) (hs : SRel P NRel π s s') :
   Near bs u (stepG.apply P l f cs none s) := by
 have hR := hs.run #[] #[] W T (r := s.run P u) (es' := (s.runT P u #[]).2) (by rw [<- Sem.runT_fst (es := #[])])
 intro g1 u1 es e
 cases hx : s.run P u with
 | halt h u' =>
   rw [hx] at hR
   obtain ⟨hm, hidle⟩ : Mild h /\ Idle π u' := hR
   left
   obtain ⟨ds, e5, hds⟩ := hc.calm
   have e1 : (if l then s.runT P u #[] else (s.run P u, #[])) = (s.run P u, if l then s.events P u #[] else #[]) := by cases l <;> simp
   revert e
   unfold stepG.apply
   dsimp only
   rw [e1, hx]
   cases h with
   | panic v =>
     intro e
     simp only [GStep.after] at e
     cases e
     refine ⟨f.raise [{ v, recovered := false }], ds, [{ v, recovered := false }], by rw [<- e5]; rfl, ?_, ?_, fun c hc => let ⟨_, h⟩ := hds c hc; h.mk hidle⟩
     · unfold Frame.raise; rw [hr]
     · unfold Frame.raise; rw [hr]; exact hf.defers.mk hidle
   | stuck s => intro e; simp only [GStep.after] at e; cases e
   | unsupported x =>
     cases x <;> first | exact hm.elim | (intro e; simp only [GStep.after] at e; cases e)
   | _ => exact hm.elim
 | ok n u' =>
   rw [hx] at hR
   obtain ⟨⟨n', w1, π1, gs, h1, h2, h3, h4, h5⟩, L⟩ := hR
   right
   have hsame : ∀ t : Nat -> Question -> Nat, (∀ d q, u.drawn <= d -> d < u'.drawn -> t d q = u.tape d q) -> (if l then s.runT P { u with tape := t } #[] else (s.run P { u with tape := t }, #[])) = (.ok n { u' with tape := t }, if l then s.events P u #[] else #[]) := by
     intro t ht
     have m1 := L.moved t ht
     have m2 : s.run P { u with tape := t } = .ok n { u' with tape := t } := by rw [<- Sem.runT_fst (es := #[]), m1]
     cases l
     · simp [m2]
     · simp only [if_true]; exact m1
   have e1 : (if l then s.runT P u #[] else (s.run P u, #[])) = (.ok n u', if l then s.events P u #[] else #[]) := by rw [<- hx]; cases l <;> simp
   have hu : ∀ (x : World) (xs : Array Event) (f2 : World -> GStep), True := fun _ _ _ => trivial
   clear hu
   revert e
   cases n <;> cases n' <;> simp only [NRel] at h2
   all_goals
     intro e
     unfold stepG.apply at e ⊢
     dsimp only at e
     rw [e1] at e
     simp only [GStep.after] at e
     cases e
     refine ⟨L.drawn, L.tape, fun t ht => ?_⟩
     dsimp only
     rw [hsame t ht]
     rfl
omit [Env] [Runs] in
theorem near_run {α : Type} {bs : List Frame} {x : Sem α} {fn : FuncId} {u u1 : World} {a : α} {es1 : Array Event} {st st2 : World -> GStep} (hx : x.runT P u #[] = (.ok a u1, es1)) (L : Loc P x u #[] a u1 es1) (N : Near bs u1 st2)
   (hst : ∀ w w' es', x.runT P w #[] = (.ok a w', es') -> st w = GStep.after (seen P fn es') (st2 w')) : Near bs u st := by
 intro g1 u2 es e
 rw [hst _ _ _ hx] at e
 cases h2 : st2 u1 with
 | go g u3 es2 =>
   rw [h2] at e
   simp only [GStep.after, GStep.go.injEq] at e
   obtain ⟨rfl, rfl, rfl⟩ := e
   rcases N _ _ _ h2 with h | ⟨k1, k2, k3⟩
   · exact .inl h
   · refine .inr ⟨Nat.le_trans L.drawn k1, k2.trans L.tape, fun t ht => ?_⟩
     have hm := L.moved t fun d q h1 h2 => ht d q h1 (Nat.lt_of_lt_of_le h2 k1)
     rw [hst _ _ _ hm, k3 t fun d q h1 h2 => by rw [L.tape]; exact ht d q (Nat.le_trans L.drawn h1) h2]
     rfl
 | _ => rw [h2] at e; cases e
omit [Runs] in
theorem round_near {bs : List Frame} {m0 : Bool} {f : Frame} {cs : List Frame} {u w : World} (hk : f.kind = .normal) (hne : cs ≠ []) (hRf : Rf) (W : WRel π u w) (T : Tapes u w) {q q' : Nat} (hq : π q = some q') {j : Option Code} (hj : ∀ c, j = some c -> Env.codeOk c) :
   Near bs u (roundStep P m0 f cs · q j) := by
 have hR := (r_endRound (P := P) (π := π) hRf.1 hq hj).run #[] #[] W T (r := (Instr.endRound q j).run P u) (es' := ((Instr.endRound q j).runT P u #[]).2) (by rw [<- Sem.runT_fst (es := #[])])
 cases hx : (Instr.endRound q j).run P u with
 | halt hh u' =>
   refine near_end (o := .stuck "range over a function: no such loop" (f.pos P)) (w := u') (es := seen P f.fn ((Instr.endRound q j).runT P u #[]).2 ++ #[]) ?_
   unfold roundStep
   rw [Sem.runT_fst, hx]
   rfl
 | ok v u1 =>
   rw [hx] at hR
   obtain ⟨-, L⟩ := hR
   obtain ⟨c, k, rfl⟩ := List.exists_cons_of_ne_nil hne
   refine near_run (x := Instr.endRound q j) (fn := f.fn) (st2 := fun w => .go (live (c.finish v) k) w) (by rw [<- hx, <- Sem.runT_fst (es := #[])]) L (near_still _ fun _ => rfl) fun w w' es' e => ?_
   unfold roundStep
   rw [e]
   simp only [doReturn, hk]
   rfl
theorem exec_near (ok : POk P) (hf : FnsOk P) (hb : BodiesOk P) {m0 l : Bool} {bs bs' : List Frame} {f f' : Frame} {cs cs' : List Frame} {u w : World} (h : FrRel P π f f') (hno : Free (live f cs)) (hr : f.mode = .run) (hc : FsRel P π bs bs' cs cs') (hcs : f.roundOf ≠ none -> cs ≠ []) (W : WRel π u w) (T : Tapes u w) :
   Near bs u (stepG P m0 (live f cs) · l) := by
 have hex : (fun x => stepG P m0 (live f cs) x l) = fun x => stepG.exec P m0 l f cs none x := funext fun x => stepG_run hr
 rw [hex]
 have hfit := h.fit
 have hrnd : ∀ j, (j = none ∨ j = some .ret ∨ ∃ id, j = some (.exit id)) -> (∀ qq, f.roundOf = some qq -> ∀ ww, stepG.exec P m0 l f cs none ww = roundStep P m0 f cs ww qq j) -> f.roundOf ≠ none -> Near bs u (stepG.exec P m0 l f cs none ·) := fun j hj e hro => by
   cases hro2 : f.roundOf with
   | none => exact absurd hro2 hro
   | some q =>
     have hround := h.round
     rw [hro2] at hround
     cases hro' : f'.roundOf with
     | none => rw [hro'] at hround; exact hround.elim
     | some q' =>
       rw [hro'] at hround
       have hRf := h.ns (.inr hro)
       rw [show (fun ww => stepG.exec P m0 l f cs none ww) = fun ww => roundStep P m0 f cs ww q j from funext (e q hro2)]
       refine round_near h.kind (hcs hro) hRf W T hround fun c e => ?_
       rcases hj with rfl | rfl | ⟨id, rfl⟩ <;> cases e
       · exact hRf.2.1
       · exact hRf.2.2 id
 cases ht : f.todo with
 | nil =>
   by_cases hro : f.roundOf = none
   · exact near_still (live { f with mode := .returning } cs) fun u => by unfold stepG.exec; simp only [ht, hro]; rfl
   · exact hrnd none (.inl rfl) (fun qq e ww => by unfold stepG.exec roundStep; simp only [ht, e]; rfl) hro
 | cons x k =>
   rw [ht] at hfit
   have hx := hfit x List.mem_cons_self
   have go1 : ∀ t, (∀ ww, stepG.exec P m0 l f cs none ww = .go (live { f with todo := t } cs) ww) -> Near bs u (stepG.exec P m0 l f cs none ·) := fun t e => near_still _ e
   cases x with
   | inBlock id => exact go1 k fun _ => by unfold stepG.exec; simp only [ht]; rfl
   | inLoop b => exact go1 (.code b :: .inLoop b :: k) fun _ => by unfold stepG.exec; simp only [ht]; rfl
   | inScope b => exact go1 k fun _ => by unfold stepG.exec; simp only [ht]; rfl
   | inRangeFunc q => exact near_end (o := .unsupported (.noEntry "a range function without a Go body that blocks") (f.pos P)) (w := u) (es := #[]) (by unfold stepG.exec; simp only [ht])
   | beginRound =>
     have e : (fun ww => stepG.exec P m0 l f cs none ww) = fun ww => stepG.apply P l f cs none (do f.roundOf.elim (stuck "beginRound: no round") Instr.beginRound; pure .skip) ww := funext fun ww => by unfold stepG.exec; simp only [ht]
     rw [e]
     have hround := h.round
     cases hro : f.roundOf with
     | none => exact apply_near h hr hc W T (s' := stuck "") SRel.halt
     | some q =>
       rw [hro] at hround
       cases hro' : f'.roundOf with
       | none => rw [hro'] at hround; exact hround.elim
       | some q' => rw [hro'] at hround; exact apply_near h hr hc W T (r_beginRound hx.1 hround)
   | endRangeFunc q =>
     obtain ⟨q', hq⟩ := h.dom (.endRangeFunc q) (by rw [ht]; exact List.mem_cons_self)
     have hR2 := (r_endLoop (P := P) (π := π) hx.1 hq).run #[] #[] W T (r := (Instr.endLoop q).run P u) (es' := ((Instr.endLoop q).runT P u #[]).2) (by rw [<- Sem.runT_fst (es := #[])])
     have e : ∀ ww, stepG.exec P m0 l f cs none ww = GStep.after (seen P f.fn ((Instr.endLoop q).runT P ww #[]).2) (match ((Instr.endLoop q).runT P ww #[]).1 with
         | .ok jump w => .go (live { f with todo := (jump.map Item.code).toList ++ k } cs) w
         | .halt (.panic v) w => .go (live (f.raise [{ v, recovered := false }]) cs) w
         | .halt _ w => .ended (.stuck "range over a function: no such loop" (f.pos P)) w) := fun _ => by unfold stepG.exec; simp only [ht]; rfl
     cases hx2 : (Instr.endLoop q).run P u with
     | halt hh u' =>
       rw [hx2] at hR2
       obtain ⟨hm, hidle⟩ : Mild hh /\ Idle π u' := hR2
       intro g1 u1 es e1
       dsimp only at e1
       rw [e, Sem.runT_fst, hx2] at e1
       cases hh with
       | panic v =>
         simp only [GStep.after, GStep.go.injEq] at e1
         obtain ⟨rfl, rfl, -⟩ := e1
         obtain ⟨ds, e5, hds⟩ := hc.calm
         refine .inl ⟨f.raise [{ v, recovered := false }], ds, [{ v, recovered := false }], by rw [<- e5], ?_, ?_, fun c hc => let ⟨_, h⟩ := hds c hc; h.mk hidle⟩
         · unfold Frame.raise; rw [hr]
         · unfold Frame.raise; rw [hr]; exact h.defers.mk hidle
       | _ => simp only [GStep.after] at e1; cases e1
     | ok j u1 =>
       rw [hx2] at hR2
       obtain ⟨-, L⟩ := hR2
       refine near_run (x := Instr.endLoop q) (fn := f.fn) (st2 := fun w => .go (live { f with todo := (j.map Item.code).toList ++ k } cs) w) (by rw [<- hx2, <- Sem.runT_fst (es := #[])]) L (near_still _ fun _ => rfl) fun w w' es' e1 => ?_
       rw [e, e1]
   | inRegion ops is =>
     cases is with
     | nil => exact go1 k fun _ => by unfold stepG.exec; simp only [ht]; rfl
     | cons i is =>
       have e1 : (fun ww => stepG.exec P m0 l f cs none ww) = fun ww => if ((ops[i]?).map (Region.wanted · (yielded ops f.tmps))).getD false then stepG.oper P l f cs none ww else .go (live (f.finish undef) cs) ww := funext fun _ => by unfold stepG.exec; simp only [ht]; rfl
       rw [e1]
       by_cases hw : ((ops[i]?).map (Region.wanted · (yielded ops f.tmps))).getD false = true
       · cases ho : ops[i]? with
         | none => rw [ho] at hw; cases hw
         | some o =>
           have hfo := (hx i o ho).resolve_left (hno ops i is k o ht ho)
           have hnd : ∀ c, o.op ≠ .defer c := fun c hd => by
             have := hfo.1
             unfold Fit at this
             rw [hd] at this
             exact this
           have e2 : (fun ww => if ((ops[i]?).map (Region.wanted · (yielded ops f.tmps))).getD false then stepG.oper P l f cs none ww else .go (live (f.finish undef) cs) ww) = fun ww => stepG.apply P l f cs none (execOp f.eval o) ww := funext fun ww => by
             rw [if_pos hw]
             unfold stepG.oper Frame.oper?
             simp only [ht, ho]
             split
             · rename_i hd; exact absurd hd (hnd _)
             · rfl
           rw [ho] at e2
           rw [e2]
           exact apply_near h hr hc W T (r_execOp ok hf (fun _ => rfl) (fun _ => rfl) hfo.1 fun x hx => h.eval (hfo.2 x hx))
       · exact near_still _ fun ww => if_neg hw
   | code c =>
     cases c with
     | skip => exact go1 k fun _ => by unfold stepG.exec; simp only [ht]; rfl
     | label n => exact go1 k fun _ => by unfold stepG.exec; simp only [ht]; rfl
     | seq a b => exact go1 (.code a :: .code b :: k) fun _ => by unfold stepG.exec; simp only [ht]; rfl
     | block id b => exact go1 (.code b :: .inBlock id :: k) fun _ => by unfold stepG.exec; simp only [ht]; rfl
     | loop b => exact go1 (.code b :: .inLoop b :: k) fun _ => by unfold stepG.exec; simp only [ht]; rfl
     | scope b => exact go1 (.code b :: .inScope b :: k) fun _ => by unfold stepG.exec; simp only [ht]; rfl
     | cond c a b =>
       by_cases hbb : ∃ bb, f.eval c = .bool bb
       · obtain ⟨bb, e⟩ := hbb
         exact go1 (.code (if bb then a else b) :: k) fun _ => by unfold stepG.exec; simp only [ht, e]; rfl
       · have e2 : ∀ bb, f.eval c ≠ .bool bb := fun bb e => hbb ⟨bb, e⟩
         exact near_end (o := .stuck "cond: bool expected" (f.pos P)) (w := u) (es := #[]) (by unfold stepG.exec; simp only [ht])
     | exit id =>
       cases he : exitTo id k with
       | some t => exact go1 t fun _ => by unfold stepG.exec; simp only [ht, he]; rfl
       | none =>
         by_cases hro : f.roundOf = none
         · exact near_end (o := .stuck "exit, goto: no such block or label" (f.pos P)) (w := u) (es := #[]) (by unfold stepG.exec; simp only [ht, he, hro]; rfl)
         · exact hrnd (some (.exit id)) (.inr (.inr ⟨id, rfl⟩)) (fun qq e ww => by unfold stepG.exec roundStep; simp only [ht, he, e]; rfl) hro
     | ret =>
       by_cases hro : f.roundOf = none
       · exact near_still (live { f with mode := .returning } cs) fun u => by unfold stepG.exec; simp only [ht, hro]; rfl
       · exact hrnd (some .ret) (.inr (.inl rfl)) (fun qq e ww => by unfold stepG.exec roundStep; simp only [ht, e]; rfl) hro
     | refuse why => exact near_end (w := u) (es := #[]) (by unfold stepG.exec; rw [ht])
     | region id ops draw =>
       cases draw with
       | false => exact go1 (.inRegion ops (List.range ops.size) :: k) fun _ => by unfold stepG.exec; simp only [ht]; rfl
       | true =>
         have hs : SRel P (fun _ (a b : Nat) => a = b) π (choose (.order f.fn id)) (choose (.order f.fn id)) := .choose fun n => .pure rfl
         have hR2 := hs.run #[] #[] W T (r := (choose (.order f.fn id)).run P u) (es' := ((choose (.order f.fn id)).runT P u #[]).2) (by rw [<- Sem.runT_fst (es := #[])])
         have e1 : ∀ ww n w2, (choose (.order f.fn id)).run P ww = .ok n w2 -> stepG.exec P m0 l f cs none ww = .go (live { f with todo := .inRegion ops (Region.schedule (P.follows .mixedOrders) ops n) :: k } cs) w2 := fun _ _ _ e2 => by unfold stepG.exec; simp only [ht, e2]; rfl
         cases hL : (choose (.order f.fn id)).run P u with
         | halt hh u' =>
           exfalso
           have hmc : ∀ h u', (choose (.order f.fn id)).run P u ≠ .halt h u' := fun h u' e => by
             unfold choose at e
             simp only [Sem.run] at e
             split at e <;> cases e
           exact hmc _ _ hL
         | ok n u1 =>
           rw [hL] at hR2
           obtain ⟨-, L⟩ := hR2
           intro g1 u2 es e
           dsimp only at e ⊢
           rw [e1 u n u1 hL] at e
           cases e
           refine .inr ⟨L.drawn, L.tape, fun t ht2 => ?_⟩
           refine e1 _ n _ ?_
           rw [<- Sem.runT_fst (es := #[]), L.moved t ht2]
     | rangeFunc fv params assign body =>
       obtain ⟨hxf, hxa, hxb⟩ := hx
       have hRf := (hb.2 assign hxa).2
       have e : ∀ ww, stepG.exec P m0 l f cs none ww = GStep.after (seen P f.fn ((Instr.enterLoop f.fn f.tmps params assign body f.roundOf).runT P ww #[]).2) (match ((Instr.enterLoop f.fn f.tmps params assign body f.roundOf).runT P ww #[]).1 with
         | .ok (q, mark) w => stepG.apply P l { f with todo := .inRangeFunc q :: k, defers := mark ++ f.defers } cs none (do let d <- Deferred.ofValue (f.eval fv) #[.func (.yield q) #[] #[]]; invoke d.target d.args) w
         | .halt _ w => .ended (.stuck "range over a function: no such loop" (f.pos P)) w) := fun ww => by
         unfold stepG.exec
         simp only [ht]
         cases ((Instr.enterLoop f.fn f.tmps params assign body f.roundOf).runT P ww #[]).1 with
         | ok r w =>
           obtain ⟨q, mark⟩ := r
           simp only [resolve]
           rw [List.map_toArray]
           rfl
         | halt _ _ => rfl
       have hR2 := (r_enterLoop (P := P) h.fn h.tmps hxa hxb h.round (params := params)).run #[] #[] W T (r := (Instr.enterLoop f.fn f.tmps params assign body f.roundOf).run P u) (es' := ((Instr.enterLoop f.fn f.tmps params assign body f.roundOf).runT P u #[]).2) (by rw [<- Sem.runT_fst (es := #[])])
       cases hx2 : (Instr.enterLoop f.fn f.tmps params assign body f.roundOf).run P u with
       | halt hh u' =>
         refine near_end (o := .stuck "range over a function: no such loop" (f.pos P)) (w := u') (es := seen P f.fn ((Instr.enterLoop f.fn f.tmps params assign body f.roundOf).runT P u #[]).2 ++ #[]) ?_
         rw [e, Sem.runT_fst, hx2]
         rfl
       | ok q u1 =>
         obtain ⟨q, mark⟩ := q
         rw [hx2] at hR2
         obtain ⟨⟨⟨q', mark'⟩, w1, π1, gs, r1, ⟨hq, hmk⟩, r3, r4, r5⟩, L⟩ := hR2
         simp only at hq hmk
         have hdk : ∀ y, y ∈ k -> LoopOk π y := fun y hy => h.dom y (by rw [ht]; exact List.mem_cons_of_mem _ hy)
         have hkf : ∀ y, y ∈ k -> ItemFit P y := fun y hy => hfit y (List.mem_cons_of_mem _ hy)
         have h1 := h.mono r5.le
         have hF : FrRel P π1 { f with todo := .inRangeFunc q :: k, defers := mark ++ f.defers } { f' with todo := .inRangeFunc q' :: k.map (rnI π), defers := mark' ++ f'.defers } := by
           refine ⟨h1.fn, h1.fnOk, h1.tmps, ?_, fun y hy => ?_, fun y hy => ?_, hmk.append h1.defers, h1.mode, h1.live, h1.kind, h1.kind', h1.round, fun _ => hRf⟩
           · rw [List.map_cons, map_mono r5.le hdk]
             simp only [rnI, hq, Option.getD_some]
           · rcases List.mem_cons.1 hy with rfl | hy
             · exact ⟨_, hq⟩
             · exact (hdk y hy).mono r5.le
           · rcases List.mem_cons.1 hy with rfl | hy
             · exact hRf
             · exact hkf y hy
         refine near_run (x := Instr.enterLoop f.fn f.tmps params assign body f.roundOf) (fn := f.fn) (st2 := fun w => stepG.apply P l { f with todo := .inRangeFunc q :: k, defers := mark ++ f.defers } cs none (do let d <- Deferred.ofValue (f.eval fv) #[.func (.yield q) #[] #[]]; invoke d.target d.args) w)
           (by rw [<- hx2, <- Sem.runT_fst (es := #[])]) L (apply_near hF hr (hc.mono r5.le) r3 r4 (r_callValue hf (h1.eval hxf) (xs' := #[.func (.yield q') #[] #[]]) (VsRel.one (VRel.func (f' := .yield q') hq rfl (fun i hi => by simp at hi) rfl (fun i hi => by simp at hi))))) fun w w' es' e1 => ?_
         rw [e, e1]
     | goto _ => exact hx.elim
   | _ => exact hx.elim
theorem leave_near (_hb : BodiesOk P) {m0 l : Bool} {b b' : Frame} {lr rr : List Frame} {f f' : Frame} {cs cs' : List Frame} {u w : World} (h : FrRel P π f f') (hr : f.mode = .returning) (hc : FsRel P π (b :: lr) (b' :: rr) cs cs') (W : WRel π u w) (T : Tapes u w) :
   Near (b :: lr) u (stepG P m0 (live f cs) · l) := by
 by_cases hd : f.defers = []
 · have hro : f.roundOf = none := by rcases h.live with h | h; rw [hr] at h; cases h; exact h.2
   obtain ⟨fn, h1⟩ := h.fnOk hro
   have hR := (r_results (P := P) (fn := fn) h.tmps).run #[] #[] W T (r := (results fn f.tmps).run P u) (es' := ((results fn f.tmps).runT P u #[]).2) (by rw [<- Sem.runT_fst (es := #[])])
   obtain ⟨c1, k1, hc1⟩ : ∃ c k, cs = c :: k := by cases hc; exact ⟨_, _, rfl⟩; exact ⟨_, _, rfl⟩
   intro g1 u1 es e
   dsimp only at e ⊢
   rw [stepG_leaving hr hd h1 h.kind hc1, Sem.runT_fst] at e
   cases hL : (results fn f.tmps).run P u with
   | halt hh u' => rw [hL] at e; cases hh <;> (simp only [GStep.after] at e; cases e)
   | ok v u2 =>
     rw [hL] at hR e
     obtain ⟨-, L⟩ := hR
     simp only [GStep.after] at e
     cases e
     refine .inr ⟨L.drawn, L.tape, fun t ht => ?_⟩
     rw [stepG_leaving hr hd h1 h.kind hc1, L.moved t ht]
     simp only [GStep.after]
 · have hdf := h.defers
   have hns := h.ns (.inl hd)
   cases h1 : f.defers with
   | nil => exact absurd h1 hd
   | cons d ds =>
     rw [h1] at hdf
     generalize h2 : f'.defers = dd at hdf
     cases hdf with
     | @cons r r' _ ds' e hds =>
       have hR := (r_takeDeferred (P := P) (π := π) hns.1 e).run #[] #[] W T (r := (Instr.takeDeferred r).run P u) (es' := ((Instr.takeDeferred r).runT P u #[]).2) (by rw [<- Sem.runT_fst (es := #[])])
       cases hx : (Instr.takeDeferred r).run P u with
       | halt hh u' =>
         refine near_end (o := .stuck "the deferred calls of a range-over-func loop have been taken" (f.pos P)) (w := u') (es := seen P f.fn ((Instr.takeDeferred r).runT P u #[]).2 ++ #[]) ?_
         rw [stepG_unwind (by rw [hr]; simp) h1, Sem.runT_fst, hx]
         rfl
       | ok v u1 =>
         rw [hx] at hR
         obtain ⟨-, L⟩ := hR
         refine near_run (x := Instr.takeDeferred r) (fn := f.fn) (st2 := fun w => .go (live { f with defers := v ++ ds } cs) w) (by rw [<- hx, <- Sem.runT_fst (es := #[])]) L (near_still _ fun _ => rfl) fun w w' es' e1 => ?_
         rw [stepG_unwind (by rw [hr]; simp) h1, e1]
theorem step_near (ok : POk P) (hf : FnsOk P) (hb : BodiesOk P) {m0 l : Bool} {b b' : Frame} {lr rr : List Frame} {g g' : Goroutine} {u w : World} (h : GRel P π (b :: lr) (b' :: rr) g g') (hno : Free g) (W : WRel π u w) (T : Tapes u w) :
   Near (b :: lr) u (stepG P m0 g · l) := by
 obtain ⟨f, f', cs, cs', rfl, rfl, h1, h2⟩ := h
 rcases h1.live with hr | ⟨hr, -⟩
 · exact exec_near ok hf hb h1 hno hr h2 (fun _ => by cases h2 <;> simp) W T
 · exact leave_near hb h1 hr h2 W T
end
section
variable {P : Program}
def World.on (u : World) (t : Nat -> Question -> Nat) : World := { u with tape := t }
def Nx (P : Program) (g : Goroutine) (u : World) (g1 : Goroutine) (u1 : World) : Prop :=
 u.drawn <= u1.drawn /\ ∃ t : Nat -> Question -> Nat, ∀ s : Nat -> Question -> Nat, (∀ d q, u.drawn <= d -> d < u1.drawn -> s d q = t d q) -> ∃ es, stepG P true g (World.on u s) = .go g1 (World.on u1 s) es
theorem join {g : Nat -> Goroutine} {u : Nat -> World} (h : ∀ k, Nx P (g k) (u k) (g (k + 1)) (u (k + 1))) :
   ∃ s : Nat -> Question -> Nat, ∀ s' : Nat -> Question -> Nat, (∀ d q, (u 0).drawn <= d -> s' d q = s d q) -> ∀ k, ∃ es, stepG P true (g k) (World.on (u k) s') = .go (g (k + 1)) (World.on (u (k + 1)) s') es := by
 classical
 have hm : ∀ i j, i <= j -> (u i).drawn <= (u j).drawn := by
   intro i j hij
   induction hij with
   | refl => exact Nat.le_refl _
   | step _ ih => exact Nat.le_trans ih (h _).1
 let t : Nat -> Nat -> Question -> Nat := fun k => (h k).2.choose
 have ht := fun k => (h k).2.choose_spec
 let s : Nat -> Question -> Nat := fun d q => if hh : ∃ k, (u k).drawn <= d /\ d < (u (k + 1)).drawn then t hh.choose d q else 0
 refine ⟨s, fun s' hs' k => ht k s' fun d q h1 h2 => ?_⟩
 rw [hs' d q (Nat.le_trans (hm 0 k (Nat.zero_le k)) h1)]
 have hh : ∃ k, (u k).drawn <= d /\ d < (u (k + 1)).drawn := ⟨k, h1, h2⟩
 have hk : hh.choose = k := by
   have h3 := hh.choose_spec
   rcases Nat.lt_trichotomy hh.choose k with x | x | x
   · have : (u (hh.choose + 1)).drawn <= (u k).drawn := hm _ _ (Nat.succ_le_of_lt x)
     omega
   · exact x
   · have : (u (k + 1)).drawn <= (u hh.choose).drawn := hm _ _ (Nat.succ_le_of_lt x)
     omega
 simp only [s, dif_pos hh]
 show t hh.choose d q = t k d q
 rw [hk]
theorem run_join {g : Nat -> Goroutine} {u : Nat -> World} (hl : ∀ k, ∃ f cs, g k = live f cs) {s : Nat -> Question -> Nat} (h : ∀ k, ∃ es, stepG P true (g k) (World.on (u k) s) = .go (g (k + 1)) (World.on (u (k + 1)) s) es) :
   ∀ n k, runN P n (lone (g k).frame (g k).callers (World.on (u k) s)) = .next (lone (g (k + n)).frame (g (k + n)).callers (World.on (u (k + n)) s))
 | 0, k => rfl
 | n + 1, k => by
   have hs : step P (lone (g k).frame (g k).callers (World.on (u k) s)) = .next (lone (g (k + 1)).frame (g (k + 1)).callers (World.on (u (k + 1)) s)) := by
     obtain ⟨es, e⟩ := h k
     obtain ⟨f, cs, e1⟩ := hl k
     obtain ⟨f2, cs2, e2⟩ := hl (k + 1)
     rw [e1, e2] at e ⊢
     exact step_lone_go (by show (stepG P true (live f cs) (World.on (u k) s)).bare = _; rw [e]; rfl)
   simp only [runN, hs]
   rw [run_join hl h n (k + 1)]
   rw [show k + 1 + n = k + (n + 1) by omega]
end
theorem no_row : Extern.next "fmt's door" = none := by
 have h : (Extern.next "fmt's door").isNone = true := by decide +kernel
 exact Option.isNone_iff_eq_none.1 h
section
variable {P : Program}
theorem door_ends {m l : Bool} {v : Value} {u : World} : ∃ o w es, stepG P m (live ((door P).finish v) []) u l = .ended o w es := by
 have e : stepG P m (live ((door P).finish v) []) u l = stepG.exec P m l ((door P).finish v) [] none u := stepG_run rfl
 rw [e]
 unfold stepG.exec
 have ht : ((door P).finish v).todo = [.extern "fmt's door" #[v]] := rfl
 simp only [ht, no_row, Option.elim_none]
 exact ⟨_, _, _, rfl⟩
def Stops (P : Program) (F : Frame -> List Frame -> Prop) : Prop := ∀ f cs, F f cs -> cs = [door P] /\ ∀ ch, f.mode ≠ .panicking ch
def FinF (P : Program) (f : Frame) (cs : List Frame) : Prop := cs = [door P] /\ f.mode = .returning /\ f.defers = []
theorem finF_stops : Stops P (FinF P) := fun f cs h => ⟨h.1, fun ch e => by rw [h.2.1] at e; cases e⟩
variable {F : Frame -> List Frame -> Prop}
theorem gone_not_fin (hF : Stops P F) {g : Goroutine} {u : World} (h : Gone P g u) : ¬ F g.frame g.callers := by
 obtain ⟨f, cs, ch, rfl, h1, _⟩ := h
 intro hf
 exact (hF _ _ hf).2 ch h1
theorem gone_stays {g : Goroutine} {u : World} (h : Gone P g u) : ∀ (n : Nat) (m : Machine), runN P n (lone g.frame g.callers u) = .next m -> ∃ g1 u1, m = lone g1.frame g1.callers u1 /\ Gone P g1 u1 := by
 intro n
 induction n generalizing g u with
 | zero => exact fun m e => by cases e; exact ⟨g, u, rfl, h⟩
 | succ n ih =>
   intro m e
   have hg := h
   obtain ⟨f, cs, ch, rfl, -⟩ := hg
   rcases gone_step (m := true) (l := true) h with ⟨o, w, es, hs, -⟩ | ⟨g1, u1, es, hs, h1⟩
   · exfalso
     have : ∃ o' w', step P (lone f cs u) = .ended o' w' := by
       have hlive : stepG P true { frame := f, callers := cs, status := .running, dying := none } u = .ended o w es := hs
       exact ⟨o, w, step_lone_ended (by rw [hlive]; rfl)⟩
     obtain ⟨o', w', e1⟩ := this
     simp only [runN] at e
     rw [show lone (live f cs).frame (live f cs).callers u = lone f cs u from rfl, e1] at e
     cases e
   · have hg1 := h1
     obtain ⟨f1, cs1, ch1, rfl, -⟩ := hg1
     have e1 : step P (lone f cs u) = .next (lone f1 cs1 u1) := step_lone_go (by show (stepG P true (live f cs) u).bare = _; rw [hs]; rfl)
     simp only [runN] at e
     rw [show lone (live f cs).frame (live f cs).callers u = lone f cs u from rfl, e1] at e
     exact ih h1 m e
def Comes (P : Program) (F : Frame -> List Frame -> Prop) (R : Frame -> World -> Prop) (g : Goroutine) (u : World) : Prop :=
 ∀ t : Nat -> Question -> Nat, ∃ s : Nat -> Question -> Nat, (∀ d q, u.drawn <= d -> s d q = t d q) /\ ∃ (k : Nat) (g1 : Goroutine) (u1 : World), runN P k (lone g.frame g.callers (World.on u s)) = .next (lone g1.frame g1.callers u1) /\ F g1.frame g1.callers /\ R g1.frame u1
theorem Comes.next {R : Frame -> World -> Prop} {f f1 : Frame} {cs cs1 : List Frame} {u u1 : World} (h : Comes P F R (live f cs) u) (hn : ¬ F f cs) (hx : Nx P (live f cs) u (live f1 cs1) u1) : Comes P F R (live f1 cs1) u1 := by
 intro t
 obtain ⟨hd, t1, ht1⟩ := hx
 obtain ⟨s, hs, k, g2, u2, e, h1, h2⟩ := h fun d q => if d < u1.drawn then t1 d q else t d q
 refine ⟨s, fun d q hdq => by rw [hs d q (Nat.le_trans hd hdq), if_neg (by omega)], ?_⟩
 obtain ⟨es, hst⟩ := ht1 s fun d q h1 h2 => by rw [hs d q h1, if_pos h2]
 have e1 : step P (lone f cs (World.on u s)) = .next (lone f1 cs1 (World.on u1 s)) := step_lone_go (by show (stepG P true (live f cs) (World.on u s)).bare = _; rw [hst]; rfl)
 cases k with
 | zero =>
   exfalso
   simp only [runN, Stepped.next.injEq, lone, Machine.mk.injEq, Array.mk.injEq, List.cons.injEq, Goroutine.mk.injEq] at e
   obtain ⟨-, ⟨⟨e2, e3, -⟩, -⟩, -⟩ := e
   refine hn ?_
   rw [show cs = g2.callers from e3, show f = g2.frame from e2]; exact h1
 | succ k =>
   simp only [runN] at e
   rw [show lone (live f cs).frame (live f cs).callers (World.on u s) = lone f cs (World.on u s) from rfl, e1] at e
   exact ⟨k, g2, u2, e, h1, h2⟩
theorem Comes.ends {R : Frame -> World -> Prop} {g : Nat -> Goroutine} {u : Nat -> World} (h : Comes P F R (g 0) (u 0)) (hl : ∀ k, ∃ f cs, g k = live f cs) (hn : ∀ k, ¬ F (g k).frame (g k).callers) (hx : ∀ k, Nx P (g k) (u k) (g (k + 1)) (u (k + 1))) : False := by
 obtain ⟨s, hs⟩ := join hx
 obtain ⟨s', hs', k, g1, u1, e, h1, -⟩ := h s
 have := run_join hl (hs s' hs') k 0
 rw [this] at e
 simp only [Stepped.next.injEq, lone, Machine.mk.injEq, Array.mk.injEq, List.cons.injEq, Goroutine.mk.injEq] at e
 obtain ⟨-, ⟨⟨e2, e3, -⟩, -⟩, -⟩ := e
 exact hn (0 + k) (by rw [e3, e2]; exact h1)
end
section
variable [Env] [Runs] {P : Program}
def Kin (P : Program) (g : Goroutine) (u : World) : Prop := ∃ π b rr g' w, GRel P π [door P] (b :: rr) g g' /\ WRel π u w
omit [Runs] in
theorem WRel.on {π : Ren} {u w : World} (W : WRel π u w) (s t : Nat -> Question -> Nat) : WRel π (World.on u s) (World.on w t) := W.same rfl rfl W.os
def shift (u w : World) : Nat -> Question -> Nat := fun d q => w.tape (w.drawn + (d - u.drawn)) q
omit [Env] [Runs] in
theorem tapes_shift (u w : World) : Tapes (World.on u (shift u w)) w := fun j q => by
 show shift u w (u.drawn + j) q = _
 unfold shift
 congr 1
 omega
omit [Env] [Runs] in
theorem tapes_back (u w : World) (s : Nat -> Question -> Nat) : Tapes (World.on u s) (World.on w fun d q => s (u.drawn + (d - w.drawn)) q) := fun j q => by
 show s (u.drawn + j) q = s (u.drawn + (w.drawn + j - w.drawn)) q
 congr 1
 omega
omit [Env] [Runs] in
theorem lone_inj {f f1 : Frame} {cs cs1 : List Frame} {u u1 : World} (e : lone f cs u = lone f1 cs1 u1) : f = f1 /\ cs = cs1 /\ u = u1 := by
 simp only [lone, Machine.mk.injEq, Array.mk.injEq, List.cons.injEq, Goroutine.mk.injEq] at e
 exact ⟨e.2.1.1.1, e.2.1.1.2.1, e.1⟩
theorem Comes.go (hq : ∀ o, ¬ Runs.orc o) (ok : POk P) (hf : FnsOk P) (hb : BodiesOk P) {F : Frame -> List Frame -> Prop} (hF : Stops P F) {R : Frame -> World -> Prop} {g : Goroutine} {u : World} (hk : Kin P g u) (h : Comes P F R g u) (hn : ¬ F g.frame g.callers) (t : Nat -> Question -> Nat) :
   ∃ g1 u1 es, stepG P true g (World.on u t) = .go g1 (World.on u1 t) es /\ Nx P g u g1 u1 /\ Kin P g1 u1 /\ Comes P F R g1 u1 := by
 obtain ⟨π, b, rr, g', w, hg, W⟩ := hk
 obtain ⟨s, hs, k, g2, u2, e, h1, h2⟩ := h t
 have hS := step_rel (m0 := true) (m := true) (l := true) ok hf hb hg (fun _ _ _ _ _ _ _ => hq _) (W.on s fun d q => s (u.drawn + (d - w.drawn)) q) (tapes_back u w s)
 have hN := step_near (m0 := true) (l := true) ok hf hb hg (fun _ _ _ _ _ _ _ => hq _) (W.on s fun d q => s (u.drawn + (d - w.drawn)) q) (tapes_back u w s)
 obtain ⟨f, f', cs, cs', rfl, rfl, hfr, hfs⟩ := hg
 have hk0 : k ≠ 0 := by
   rintro rfl
   simp only [runN, Stepped.next.injEq] at e
   obtain ⟨e1, e2, -⟩ := lone_inj e
   exact hn (by show F f cs; rw [show f = g2.frame from e1, show cs = g2.callers from e2]; exact h1)
 obtain ⟨k, rfl⟩ := Nat.exists_eq_succ_of_ne_zero hk0
 simp only [runN] at e
 rw [show lone (live f cs).frame (live f cs).callers (World.on u s) = lone f cs (World.on u s) from rfl] at e
 have hgone : ∀ g1 u1 es, stepG P true (live f cs) (World.on u s) = .go g1 u1 es -> ¬ Lost [door P] g1 u1 := by
   rintro g1 u1 es he ⟨f1, ds, ch, rfl, hm, hd, hds⟩
   have e1 : step P (lone f cs (World.on u s)) = .next (lone f1 (ds ++ [door P]) u1) := step_lone_go (by show (stepG P true (live f cs) (World.on u s)).bare = _; rw [he]; rfl)
   rw [e1] at e
   have hG : Gone P (live f1 (ds ++ [door P])) u1 := by
     refine ⟨_, _, ch, rfl, hm, hd, fun c hc => ?_, .inl ⟨ds, rfl⟩⟩
     rcases List.mem_append.1 hc with hc | hc
     · exact hds c hc
     · rw [List.mem_singleton.1 hc]; exact fun d hd => nomatch hd
   obtain ⟨g3, u3, e3, h3⟩ := gone_stays hG k _ e
   obtain ⟨e4, e5, -⟩ := lone_inj e3
   exact gone_not_fin hF h3 (e4 ▸ e5 ▸ h1)
 cases hst : stepG P true (live f cs) (World.on u s) with
 | ended o w1 es =>
   exfalso
   have : step P (lone f cs (World.on u s)) = .ended o w1 := step_lone_ended (by show (stepG P true (live f cs) (World.on u s)).bare = _; rw [hst]; rfl)
   rw [this] at e
   cases e
 | go g1 u1 es =>
   rw [hst] at hS
   rcases hS with hL | ⟨g1', w1, π1, gs, es1, -, -, hrel, W1, -, -⟩
   · exact absurd hL (hgone _ _ _ hst)
   · rcases hrel with hrel | hrel
     · rcases hN g1 u1 es hst with hL | ⟨hd, htp, hloc⟩
       · exact absurd hL (hgone _ _ _ hst)
       · have hu1 : World.on u1 s = u1 := by
           have : u1.tape = s := htp
           unfold World.on
           rw [<- this]
         have hX : Nx P (live f cs) u g1 u1 := ⟨hd, s, fun s2 h2 => ⟨es, hloc s2 h2⟩⟩
         obtain ⟨f1, f1', cs1, cs1', rfl, rfl, q1, q2⟩ := hrel
         refine ⟨_, u1, es, hloc t fun d q h1 _ => (hs d q h1).symm, hX, ⟨π1, b, rr, _, w1, ⟨_, _, _, _, rfl, rfl, q1, q2⟩, W1⟩, Comes.next h hn hX⟩
     · exfalso
       obtain ⟨b1, l1, b2, l2, v, v', eb, -, -, rfl, -⟩ := hrel
       cases eb
       have e1 : step P (lone f cs (World.on u s)) = .next (lone ((door P).finish v) [] u1) := step_lone_go (by show (stepG P true (live f cs) (World.on u s)).bare = _; rw [hst]; rfl)
       rw [e1] at e
       cases k with
       | zero =>
         simp only [runN, Stepped.next.injEq] at e
         obtain ⟨-, e2, -⟩ := lone_inj e
         rw [(hF _ _ h1).1] at e2
         cases e2
       | succ k =>
         obtain ⟨o, w3, es3, he⟩ := door_ends (P := P) (m := true) (l := true) (v := v) (u := u1)
         have e3 : step P (lone ((door P).finish v) [] u1) = .ended o w3 := step_lone_ended (by show (stepG P true (live ((door P).finish v) []) u1).bare = _; rw [he]; rfl)
         simp only [runN, e3] at e
         cases e
 | _ => rw [hst] at hS; exact hS.elim
end
section
variable [Env] [Runs] {P : Program}
def Then (P : Program) (F : Frame -> List Frame -> Prop) (R : Frame -> World -> Prop) (s1 s : Goroutine × World) : Prop :=
 Kin P s.1 s.2 /\ Comes P F R s.1 s.2 /\ ¬ F s.1.frame s.1.callers /\ Nx P s.1 s.2 s1.1 s1.2
theorem Kin.live {g : Goroutine} {u : World} (h : Kin P g u) : ∃ f cs, g = live f cs := by
 obtain ⟨_, _, _, _, _, ⟨f, _, cs, _, rfl, _⟩, _⟩ := h
 exact ⟨f, cs, rfl⟩
theorem Comes.acc {F : Frame -> List Frame -> Prop} {R : Frame -> World -> Prop} {s : Goroutine × World} : Acc (Then P F R) s := by
 classical
 refine Classical.byContradiction fun hna => ?_
 have hstep : ∀ a : { a : Goroutine × World // ¬ Acc (Then P F R) a }, ∃ b : { a : Goroutine × World // ¬ Acc (Then P F R) a }, Then P F R b.1 a.1 := by
   rintro ⟨a, ha⟩
   refine Classical.byContradiction fun hno => ha ⟨a, fun b hb => Classical.byContradiction fun hb2 => hno ⟨⟨b, hb2⟩, hb⟩⟩
 let nxt : { a : Goroutine × World // ¬ Acc (Then P F R) a } -> { a : Goroutine × World // ¬ Acc (Then P F R) a } := fun a => (hstep a).choose
 have hnxt : ∀ a, Then P F R (nxt a).1 a.1 := fun a => (hstep a).choose_spec
 let p : Nat -> { a : Goroutine × World // ¬ Acc (Then P F R) a } := fun n => n.rec ⟨s, hna⟩ fun _ a => nxt a
 have hp : ∀ n, Then P F R (p (n + 1)).1 (p n).1 := fun n => hnxt (p n)
 exact Comes.ends (g := fun n => (p n).1.1) (u := fun n => (p n).1.2) (hp 0).2.1 (fun k => (hp k).1.live) (fun k => (hp k).2.2.1) (fun k => (hp k).2.2.2)
theorem Comes.fin {F : Frame -> List Frame -> Prop} (hF : Stops P F) {R : Frame -> World -> Prop} (hR : ∀ f u t, R f u -> R f (World.on u t)) {g : Goroutine} {u : World} (hk : Kin P g u) (h : Comes P F R g u) (_hfin : F g.frame g.callers)
   (hleave : ∀ t, (∃ o w es, stepG P true g (World.on u t) = .ended o w es) ∨ ∃ v u1 es, stepG P true g (World.on u t) = .go (live ((door P).finish v) []) u1 es) : R g.frame u := by
 obtain ⟨f, cs, rfl⟩ := hk.live
 obtain ⟨s, hs, k, g2, u2, e, h1, h2⟩ := h u.tape
 cases k with
 | zero =>
   simp only [runN, Stepped.next.injEq] at e
   obtain ⟨e1, e2, e3⟩ := lone_inj e
   subst e3
   rw [show (live f cs).frame = g2.frame from e1]
   exact hR g2.frame (World.on u s) u.tape h2
 | succ k =>
   exfalso
   simp only [runN] at e
   rw [show lone (live f cs).frame (live f cs).callers (World.on u s) = lone f cs (World.on u s) from rfl] at e
   rcases hleave s with ⟨o, w, es, he⟩ | ⟨v, u1, es, he⟩
   · have : step P (lone f cs (World.on u s)) = .ended o w := step_lone_ended (by show (stepG P true (live f cs) (World.on u s)).bare = _; rw [he]; rfl)
     rw [this] at e
     cases e
   · have e1 : step P (lone f cs (World.on u s)) = .next (lone ((door P).finish v) [] u1) := step_lone_go (by show (stepG P true (live f cs) (World.on u s)).bare = _; rw [he]; rfl)
     rw [e1] at e
     cases k with
     | zero =>
       simp only [runN, Stepped.next.injEq] at e
       obtain ⟨-, e2, -⟩ := lone_inj e
       rw [(hF _ _ h1).1] at e2
       cases e2
     | succ k =>
       obtain ⟨o, w3, es3, he⟩ := door_ends (P := P) (m := true) (l := true) (v := v) (u := u1)
       have e3 : step P (lone ((door P).finish v) [] u1) = .ended o w3 := step_lone_ended (by show (stepG P true (live ((door P).finish v) []) u1).bare = _; rw [he]; rfl)
       simp only [runN, e3] at e
       cases e
omit [Env] [Runs] in
theorem comes_of_calls {f : FuncId} {args : Array Value} {u : World} {Post : Value -> World -> Prop} (h : ∀ t, Calls P f args (World.on u t) fun e w => ∃ v, e = .returned v /\ Post v w) :
   Comes P (FinF P) (fun fr w => fr.fn = f /\ ∃ v, fr.leaving P w (.returned v) /\ Post v w) (live (Frame.enter P f args .normal) [door P]) u := by
 intro t
 obtain ⟨e, w1, fr, ⟨v, rfl, hv⟩, ⟨n, hn⟩, hfn, hlv⟩ := h t [door P]
 exact ⟨t, fun _ _ _ => rfl, n, live fr [door P], w1, hn, ⟨rfl, hlv.1, hlv.2.1⟩, hfn, v, hlv, hv⟩
end
section
variable [Env]
theorem WRel.rely {π : Ren} {u w w1 : World} (W : WRel π u w) (hs : ∀ b b' o, π b = some b' -> Nest.Same ⟨b', o, none⟩ w w1) (hos : w1.os = w.os) : WRel π u w1 := by
 refine ⟨W.inj, fun b b' hb => ?_, W.os.trans hos.symm, W.rim, W.low, W.frost⟩
 obtain ⟨o, o', e1, e2, ho, hw⟩ := W.obj b b' hb
 have hS := hs b b' 0 hb
 by_cases hc : ∃ c t f, o' = .cells c t f
 · obtain ⟨c, t, f, rfl⟩ := hc
   have h1 : w1.shape? b' = some (t, c.size) := by
     have := hS.shape
     simp only [World.shape?, e2] at this ⊢
     exact this
   obtain ⟨c1, f1, e3, hsz⟩ : ∃ c1 f1, w1.heap[b']? = some (.cells c1 t f1) /\ c1.size = c.size := by
     simp only [World.shape?] at h1
     cases hh : w1.heap[b']? with
     | none => rw [hh] at h1; simp at h1
     | some x =>
       rw [hh] at h1
       cases x <;> simp at h1
       obtain ⟨rfl, h2⟩ := h1
       exact ⟨_, _, rfl, h2⟩
   have hcell : ∀ i : Nat, c1[i]? = c[i]? := fun i => by
     have := (hs b b' i hb).cell
     simpa [World.cell?, e2, e3] using this
   have hc1 : c1 = c := Array.ext_getElem? hcell
   subst hc1
   have hp : f1 = f := by
     have := hS.pair
     simpa only [Nest.frost, e2, e3] using this
   subst hp
   exact ⟨o, _, e1, e3, ho, hw⟩
 · have h1 : w.shape? b' = none := by
     simp only [World.shape?, e2]
     cases o' <;> first | rfl | exact absurd ⟨_, _, _, rfl⟩ hc
   exact ⟨o, o', e1, (hS.obj h1).trans e2, ho, hw⟩
end
end Go.Eq
namespace Go.Eq
open Go Go.Conc Go.Nest
open Go.ConcN (WgLive)
section
variable {ty : TypeId} {P : Program} {FinN : Perm -> Perm -> Goroutine -> World -> Prop}
def Sc (ty : TypeId) (P : Program) (FinN : Perm -> Perm -> Goroutine -> World -> Prop) (c : Cfg) (g : Goroutine) (w : World) : Prop := ∃ n : Tree, Script ty P FinN n .work c g w
theorem Sc.ord {c : Cfg} {g : Goroutine} {w : World} (hr : g.status = .running) (ho : g.offers = none)
   (h : ∀ w₁, Rely ty c w w₁ -> ∃ g' w' es c', stepG P c.main g w₁ = .go g' w' es /\ Ord ty c c' w₁ w' es /\ Sc ty P FinN c' g' w') : Sc ty P FinN c g w := by
 classical
 refine ⟨.node { w₁ // Rely ty c w w₁ } fun x => (h x.1 x.2).choose_spec.choose_spec.choose_spec.choose_spec.2.2.choose, hr, ho, fun w₁ h₁ => ?_⟩
 have hx := (h w₁ h₁).choose_spec.choose_spec.choose_spec.choose_spec
 exact .inl ⟨rfl, ⟨w₁, h₁⟩, _, _, _, _, hx.1, hx.2.1, hx.2.2.choose_spec⟩
structure Snug (c : Cfg) (w : World) : Prop where
 low : ∀ a, c.own a ∨ c.rd a -> a.block < w.heap.size
 cur : ∀ z, c.cur = some z -> z < w.heap.size /\ ∀ a : Addr, a.block = z -> ¬ (c.own a ∨ c.rd a)
 up : ∀ z v, c.up = some (z, v) -> z < w.heap.size /\ ∀ a : Addr, a.block = z -> ¬ (c.own a ∨ c.rd a)
theorem Snug.rely {c : Cfg} {w w₁ : World} (h : Snug c w) (hr : Rely ty c w w₁) : Snug c w₁ :=
 ⟨fun a ha => Nat.lt_of_lt_of_le (h.low a ha) hr.size, fun z hz => ⟨Nat.lt_of_lt_of_le (h.cur z hz).1 hr.size, (h.cur z hz).2⟩, fun z v hz => ⟨Nat.lt_of_lt_of_le (h.up z v hz).1 hr.size, (h.up z v hz).2⟩⟩
def grown (c : Cfg) (w w' : World) : Cfg := { c with own := fun a => c.own a ∨ (w.heap.size <= a.block /\ a.block < w'.heap.size) }
variable [Env]
def Held (c : Cfg) (π : Ren) : Prop := ∀ b b', π b = some b' -> ∀ a : Addr, a.block = b' -> c.own a ∨ (Env.sealed b /\ c.rd a)
omit [Env] in
theorem same_of_heap {a : Addr} {w w' : World} (h : w'.heap[a.block]? = w.heap[a.block]?) : Same a w w' :=
 ⟨by simp only [World.cell?, h], by simp only [World.frozen?, h], by simp only [World.shape?, h], fun _ => h, by simp only [frost, h]⟩
theorem Eff.far {π π' : Ren} {w w' : World} {gs : List Event} (E : Eff π π' w w' gs) {z : Nat} (hz : z < w.heap.size) (h : ∀ b, π b = some z -> Env.sealed b) : w'.heap[z]? = w.heap[z]? := by
 by_cases hx : ∃ b, π b = some z
 · obtain ⟨b, hb⟩ := hx
   exact E.still b z (h b hb) hb
 · exact E.out z hz fun b hb => hx ⟨b, hb⟩
theorem ord_of_eff {c : Cfg} {π π' : Ren} {u' w w' : World} {gs : List Event} {es : Array Event} (H : Held c π) (S : Snug c w) (E : Eff π π' w w' gs) (hes : ∀ e, e ∈ es -> e ∈ gs) (W : WRel π' u' w') :
   Ord ty c (grown c w w') w w' es /\ Held (grown c w w') π' /\ Snug (grown c w w') w' := by
 have hmark : ∀ e, e ∈ es -> e.loc ≠ .mark .disable /\ e.loc ≠ .mark .enable := by
   intro e he
   rcases E.evs e (hes e he) with ⟨a, b, wr, rfl, -⟩ | ⟨r, b, wr, rfl, -⟩ | ⟨m, rfl, rfl | ⟨f, rfl⟩⟩ <;> simp
 have hsz : ∀ {b b'}, π' b = some b' -> b' < w'.heap.size := fun h => (W.size h).2
 have hkey : ∀ {b : Nat} {a : Addr} (wr : Bool), π' b = some a.block -> (wr = true -> ¬ Env.sealed b) ->
     c.own a ∨ (c.rd a /\ wr = false) ∨ (w.heap.size <= a.block /\ (grown c w w').cur ≠ some a.block) := by
   intro b a wr hb hw
   rcases E.new _ _ hb with h1 | h1
   · rcases H b _ h1 a rfl with h2 | ⟨h2, h3⟩
     · exact .inl h2
     · refine .inr (.inl ⟨h3, ?_⟩)
       cases wr
       · rfl
       · exact absurd h2 (hw rfl)
   · refine .inr (.inr ⟨h1, fun h => ?_⟩)
     have := (S.cur _ h).1
     omega
 have hgz : ∀ z, z < w.heap.size -> (∀ a : Addr, a.block = z -> ¬ (c.own a ∨ c.rd a)) -> ∀ a : Addr, a.block = z -> ¬ ((grown c w w').own a ∨ (grown c w w').rd a) := by
   rintro z hz h a ha ((h1 | h1) | h1)
   · exact h a ha (.inl h1)
   · omega
   · exact h a ha (.inr h1)
 refine ⟨⟨E.size, fun b hb hn => ?_, fun a ha hn => ?_, fun b s h => ?_, E.os, E.tape, E.output, fun e he => ?_, fun j e x hj hx hk => ?_, rfl, ?_, fun a ha => ?_, fun a ha => ?_, rfl, rfl, rfl, rfl, .inl rfl⟩, fun b b' hb a ha => ?_, ⟨fun a ha => ?_, fun z hz => ?_, fun z v hz => ?_⟩⟩
 · exact E.far hb fun x hx => ((H x b hx ⟨b, 0, none⟩ rfl).resolve_left (hn 0)).1
 · exact same_of_heap (E.far ha fun x hx => ((H x _ hx a rfl).resolve_left hn).1)
 · rw [E.shape b ?_]
   · exact h
   · rcases Nat.lt_or_ge b w.heap.size with hb | hb
     · exact hb
     · simp [World.shape?, Array.getElem?_eq_none hb] at h
 · -- what it lists
   refine ⟨fun x hx => ?_, ?_, fun a h => ?_⟩
   · rcases E.evs e (hes e he) with ⟨a, b, wr, rfl, h1, h2⟩ | ⟨r, b, wr, rfl, h1, h2⟩ | ⟨m, rfl, rfl | ⟨f, rfl⟩⟩
     · have : x = ⟨.cell a, wr, .plain⟩ := by
         cases wr <;> simpa [MemAct.ofEvent, MemAct.touch?] using hx.symm
       subst this
       exact ⟨a, rfl, hsz h1, .inl ⟨rfl, hkey wr h1 h2⟩⟩
     · have : x = ⟨.obj r, wr, .plain⟩ := by
         cases wr <;> simpa [MemAct.ofEvent, MemAct.touch?] using hx.symm
       subst this
       exact ⟨⟨r, 0, none⟩, rfl, hsz h1, .inl ⟨rfl, hkey (a := ⟨r, 0, none⟩) wr h1 h2⟩⟩
     · simp [MemAct.ofEvent, MemAct.touch?] at hx
     · simp [MemAct.ofEvent, MemAct.touch?] at hx
   · rcases E.evs e (hes e he) with ⟨a, b, wr, rfl, h1, h2⟩ | ⟨r, b, wr, rfl, h1, h2⟩ | ⟨m, rfl, rfl | ⟨f, rfl⟩⟩
     · cases wr <;> exact hsz h1
     · cases wr <;> exact hsz h1
     · exact trivial
     · exact trivial
   · rcases E.evs e (hes e he) with ⟨a, b, wr, rfl, -⟩ | ⟨r, b, wr, rfl, -⟩ | ⟨m, rfl, rfl | ⟨f, rfl⟩⟩ <;> cases h
 · exfalso
   have he := Array.mem_of_getElem? hj
   rcases E.evs e (hes e he) with ⟨a, b, wr, rfl, h1, h2⟩ | ⟨r, b, wr, rfl, h1, h2⟩ | ⟨m, rfl, rfl | ⟨f, rfl⟩⟩
   · have : x = ⟨.cell a, wr, .plain⟩ := by
       cases wr <;> simpa [MemAct.ofEvent, MemAct.touch?] using hx.symm
     subst this; cases hk
   · have : x = ⟨.obj r, wr, .plain⟩ := by
       cases wr <;> simpa [MemAct.ofEvent, MemAct.touch?] using hx.symm
     subst this; cases hk
   · simp [MemAct.ofEvent, MemAct.touch?] at hx
   · simp [MemAct.ofEvent, MemAct.touch?] at hx
 · exact (deafBehind_still (fun e he => hmark e he) _).symm
 · refine ⟨ha.imp id (fun h => .inl h.1), ?_⟩
   rcases ha with h | h
   · exact Nat.lt_of_lt_of_le (S.low a (.inl h)) E.size
   · exact h.2
 · exact ⟨.inl ha, Nat.lt_of_lt_of_le (S.low a (.inr ha)) E.size⟩
 · rcases E.new _ _ hb with h1 | h1
   · exact (H b _ h1 a ha).imp .inl id
   · exact .inl (.inr ⟨by omega, by rw [ha]; exact hsz hb⟩)
 · rcases ha with (h | h) | h
   · exact Nat.lt_of_lt_of_le (S.low a (.inl h)) E.size
   · exact h.2
   · exact Nat.lt_of_lt_of_le (S.low a (.inr h)) E.size
 · exact ⟨Nat.lt_of_lt_of_le (S.cur z hz).1 E.size, hgz z (S.cur z hz).1 (S.cur z hz).2⟩
 · exact ⟨Nat.lt_of_lt_of_le (S.up z v hz).1 E.size, hgz z (S.up z v hz).1 (S.up z v hz).2⟩
structure Acr (ty : TypeId) (c0 : Cfg) (π0 : Ren) (w0 : World) (c : Cfg) (π : Ren) (w : World) : Prop where
 le : π0.le π
 cfg : c = { c0 with own := c.own }
 own : ∀ a, c0.own a -> c.own a
 own' : ∀ a, c.own a -> c0.own a ∨ w0.heap.size <= a.block
 size : w0.heap.size <= w.heap.size
 new : ∀ b b', π b = some b' -> π0 b = some b' ∨ w0.heap.size <= b'
 same : ∀ a, c0.own a ∨ c0.rd a -> (∀ b, π0 b = some a.block -> Env.sealed b) -> Same a w0 w
 shape : ∀ b s, w0.shape? b = some s -> w.shape? b = some s
 cur : ∀ z, c0.cur = some z -> WgLive ty z w0 -> WgLive ty z w
 up : ∀ z v, c0.up = some (z, v) -> WgLive ty z w0 -> WgLive ty z w
 os : w.os = w0.os
 tape : w.tape = w0.tape
 output : w.output = w0.output
theorem Acr.refl (c : Cfg) (π : Ren) (w : World) : Acr ty c π w c π w :=
 ⟨Ren.le_refl π, rfl, fun _ h => h, fun _ h => .inl h, Nat.le_refl _, fun _ _ h => .inl h, fun a _ _ => .refl a w, fun _ _ h => h, fun _ _ h => h, fun _ _ _ h => h, rfl, rfl, rfl⟩
theorem Acr.rely {c0 : Cfg} {π0 : Ren} {w0 : World} {c : Cfg} {π : Ren} {w w1 : World} (A : Acr ty c0 π0 w0 c π w) (hr : Rely ty c w w1) : Acr ty c0 π0 w0 c π w1 := by
 have e := A.cfg
 have ecur : c.cur = c0.cur := by rw [e]
 have eup : c.up = c0.up := by rw [e]
 have erd : c.rd = c0.rd := by rw [e]
 exact ⟨A.le, A.cfg, A.own, A.own', Nat.le_trans A.size hr.size, A.new, fun a ha hb => (A.same a ha hb).trans (hr.same a (ha.imp (A.own a) (by rw [erd]; exact id))), fun b s h => hr.shape b s (A.shape b s h),
   fun z hz h => hr.cur z (by rw [ecur]; exact hz) (A.cur z hz h), fun z v hz h => hr.up z v (by rw [eup]; exact hz) (A.up z v hz h), hr.os.trans A.os, hr.tape.trans A.tape, hr.output.trans A.output⟩
theorem Acr.eff {c0 : Cfg} {π0 : Ren} {w0 : World} {c : Cfg} {π π' : Ren} {w w' : World} {gs : List Event} (A : Acr ty c0 π0 w0 c π w) (S0 : Snug c0 w0) (H : Held c π) (S : Snug c w) (E : Eff π π' w w' gs) : Acr ty c0 π0 w0 (grown c w w') π' w' := by
 have e := A.cfg
 have ecur : c.cur = c0.cur := by rw [e]
 have eup : c.up = c0.up := by rw [e]
 have hz : ∀ z, z < w.heap.size -> (∀ a : Addr, a.block = z -> ¬ (c.own a ∨ c.rd a)) -> w'.heap[z]? = w.heap[z]? := fun z hz hn =>
   E.far hz fun x hx => ((H x z hx ⟨z, 0, none⟩ rfl).resolve_left (fun h => hn _ rfl (.inl h))).1
 refine ⟨Ren.le_trans A.le E.le, ?_, fun a h => .inl (A.own a h), fun a h => ?_, Nat.le_trans A.size E.size, fun b b' hb => ?_, fun a ha hb => ?_, fun b s h => ?_, fun z hc h => ?_, fun z v hc h => ?_, E.os.trans A.os, E.tape.trans A.tape, E.output.trans A.output⟩
 · show grown c w w' = { c0 with own := (grown c w w').own }
   unfold grown
   rw [show ({ c with own := fun a => c.own a ∨ (w.heap.size <= a.block /\ a.block < w'.heap.size) } : Cfg) = { ({ c0 with own := c.own } : Cfg) with own := fun a => c.own a ∨ (w.heap.size <= a.block /\ a.block < w'.heap.size) } from by rw [<- e]]
 · rcases h with h | h
   · exact A.own' a h
   · exact .inr (Nat.le_trans A.size h.1)
 · rcases E.new _ _ hb with h | h
   · exact A.new _ _ h
   · exact .inr (Nat.le_trans A.size h)
 · refine (A.same a ha hb).trans (same_of_heap (E.far (Nat.lt_of_lt_of_le (S0.low a ha) A.size) fun x hx => ?_))
   rcases A.new _ _ hx with h | h
   · exact hb x h
   · have := S0.low a ha; omega
 · have h1 := A.shape b s h
   rw [E.shape b ?_]
   · exact h1
   · rcases Nat.lt_or_ge b w.heap.size with hb | hb
     · exact hb
     · simp [World.shape?, Array.getElem?_eq_none hb] at h1
 · obtain ⟨st, sm, h1⟩ := A.cur z hc h
   have h2 := S.cur z (by rw [ecur]; exact hc)
   exact ⟨st, sm, (hz z h2.1 h2.2).trans h1⟩
 · obtain ⟨st, sm, h1⟩ := A.up z v hc h
   have h2 := S.up z v (by rw [eup]; exact hc)
   exact ⟨st, sm, (hz z h2.1 h2.2).trans h1⟩
def Kept (P : Program) (Post : Value -> World -> Prop) (fr : Frame) (u : World) : Prop := ∃ t v, fr.leaving P (World.on u t) (.returned v) /\ Post v (World.on u t)
theorem WRel.held {c : Cfg} {π : Ren} {u w w1 : World} (W : WRel π u w) (H : Held c π) (hr : Rely ty c w w1) : WRel π u w1 :=
 W.rely (fun b b' o hb => hr.same _ ((H b b' hb ⟨b', o, none⟩ rfl).imp id (·.2))) hr.os
variable {c0 : Cfg} {π0 : Ren} {w0 : World} {Post : Value -> World -> Prop} {b' : Frame} {rr : List Frame}
def Cont (ty : TypeId) (P : Program) (FinN : Perm -> Perm -> Goroutine -> World -> Prop) (c0 : Cfg) (π0 : Ren) (w0 : World) (Post : Value -> World -> Prop) (b' : Frame) (rr : List Frame) : Prop :=
 ∀ v v' π u w c, Acr ty c0 π0 w0 c π w -> VRel π v v' -> WRel π u w -> Held c π -> Snug c w -> Post v u -> Sc ty P FinN c (live (b'.finish v') rr) w
theorem bridge_go [Runs] (hq : ∀ o, ¬ Runs.orc o) (ok : POk P) (hf : FnsOk P) (hb : BodiesOk P) (S0 : Snug c0 w0) (K : Cont ty P FinN c0 π0 w0 Post b' rr) (hpost : ∀ v u t, Post v u -> Post v (World.on u t)) {s : Goroutine × World} (ha : Acc (Then P (FinF P) (Kept P Post)) s) :
   ∀ (π : Ren) (g' : Goroutine) (w : World) (c : Cfg), GRel P π [door P] (b' :: rr) s.1 g' -> WRel π s.2 w -> Comes P (FinF P) (Kept P Post) s.1 s.2 -> Acr ty c0 π0 w0 c π w -> Held c π -> Snug c w -> Sc ty P FinN c g' w := by
 induction ha with
 | intro s _ ih =>
   obtain ⟨g, u⟩ := s
   intro π g' w c hg W hc A H S
   dsimp only at hg W hc
   have hg0 := hg
   obtain ⟨f, f', cs, cs', rfl, rfl, hfr, hfs⟩ := hg
   refine Sc.ord rfl rfl fun w₁ hr => ?_
   have W1 := W.held H hr
   have S1 := S.rely hr
   have A1 := A.rely hr
   have hS := step_rel (m0 := true) (m := c.main) (l := true) ok hf hb hg0 (fun _ _ _ _ _ _ _ => hq _) (W1.on (shift u w₁) w₁.tape) (tapes_shift u w₁)
   by_cases hfin : FinF P f cs
   · -- the function is left
     have hmr : f.mode = .returning := hfin.2.1
     have hdf : f.defers = [] := hfin.2.2
     have hcs : cs = [door P] := hfin.1
     subst hcs
     have hro : f.roundOf = none := by rcases hfr.live with h | h; rw [hmr] at h; cases h; exact h.2
     obtain ⟨fn, hfn⟩ := hfr.fnOk hro
     have hk : Kept P Post f u := Comes.fin finF_stops (fun f u t ⟨t1, v, h1, h2⟩ => ⟨t1, v, h1, h2⟩) ⟨π, b', rr, _, w, hg0, W⟩ hc hfin fun t => by
       have hS2 := step_rel (m0 := true) (m := c.main) (l := true) ok hf hb hg0 (fun _ _ _ _ _ _ _ => hq _) (W1.on t fun d q => t (u.drawn + (d - w₁.drawn)) q) (tapes_back u w₁ t)
       rw [stepG_leaving hmr hdf hfn hfr.kind rfl] at hS2 ⊢
       cases hrr : ((results fn f.tmps).runT P (World.on u t) #[]).1 with
       | ok v u1 => exact .inr ⟨v, u1, _, rfl⟩
       | halt hh u1 =>
         left
         cases hh <;> exact ⟨_, _, _, rfl⟩
     obtain ⟨t, v, ⟨-, -, -, fn2, hfn2, hres⟩, hv⟩ := hk
     rw [hfn] at hfn2; cases hfn2
     rw [stepG_leaving hmr hdf hfn hfr.kind rfl, Sem.runT_fst] at hS
     have hres2 : (results fn f.tmps).run P (World.on u (shift u w₁)) = .ok v (World.on u (shift u w₁)) := by
       have hR := (r_results (P := P) (fn := fn) hfr.tmps).run #[] #[] (W1.on t fun d q => t (u.drawn + (d - w₁.drawn)) q) (tapes_back u w₁ t) (r := (results fn f.tmps).run P (World.on u t)) (es' := ((results fn f.tmps).runT P (World.on u t) #[]).2) (by rw [<- Sem.runT_fst (es := #[])])
       rw [hres] at hR
       obtain ⟨-, L⟩ := hR
       have h3 := L.moved (shift u w₁) fun d q hd1 hd2 => by
         have h1 : u.drawn <= d := hd1
         have h2 : d < u.drawn := hd2
         omega
       rw [<- Sem.runT_fst (es := #[]), show World.on u (shift u w₁) = { World.on u t with tape := shift u w₁ } from rfl, h3]
     rw [hres2] at hS
     rcases hS with hL | ⟨g1', w2, π1, gs, es, hst, hes, hrel, W2, -, E⟩
     · exfalso
       obtain ⟨f1, ds, ch, e1, e2, -⟩ := hL
       simp only [live, Goroutine.mk.injEq] at e1
       have : ([] : List Frame) = ds ++ [door P] := e1.2.1
       simp at this
     · rcases hrel with ⟨f1, f1', cs1, cs1', e1, -, -, hfs1⟩ | ⟨b1, l1, b2, l2, v1, v2, eb, eb2, hvv, e1, rfl⟩
       · exfalso
         simp only [live, Goroutine.mk.injEq] at e1
         obtain ⟨ds, e3, -⟩ := hfs1.calm
         have : ([] : List Frame) = ds ++ [door P] := e1.2.1.trans e3
         simp at this
       · cases eb2
         cases eb
         have hv1 : v1 = v := by
           simp only [live, Goroutine.mk.injEq] at e1
           have h5 : (door P).finish v = (door P).finish v1 := e1.1
           have h6 : ∀ x, ((door P).finish x).todo = [.extern "fmt's door" #[x]] := fun x => rfl
           have h7 := h6 v
           rw [h5, h6 v1] at h7
           simpa using h7
         subst hv1
         have E' : Eff π π1 w₁ w2 gs := E
         obtain ⟨O, H2, S2⟩ := ord_of_eff (ty := ty) (es := es) H S1 E' (fun e he => by simpa using hes e he) W2
         exact ⟨_, _, _, _, hst, O, K v1 v2 π1 _ w2 _ (A1.eff S0 H S1 E') hvv W2 H2 S2 (hpost v1 (World.on u t) (shift u w₁) hv)⟩
   · obtain ⟨g1, u1, es1, hst1, hnx, hk1, hc1⟩ := Comes.go hq ok hf hb finF_stops ⟨π, b', rr, _, w, hg0, W⟩ hc hfin (shift u w₁)
     rw [hst1] at hS
     rcases hS with hL | ⟨g1', w2, π1, gs, es, hst, hes, hrel, W2, -, E⟩
     · exfalso
       obtain ⟨f1, ds, ch, rfl, e2, -⟩ := hL
       obtain ⟨_, _, _, _, _, ⟨f3, f4, cs3, cs4, e3, -, hf3, -⟩, -⟩ := hk1
       simp only [live, Goroutine.mk.injEq] at e3
       have : f3.mode = .panicking ch := by rw [<- e3.1]; exact e2
       rcases hf3.live with h | ⟨h, -⟩ <;> rw [this] at h <;> cases h
     · rcases hrel with hrel | ⟨b1, l1, b2, l2, v1, v2, eb, eb2, hvv, rfl, rfl⟩
       · have E' : Eff π π1 w₁ w2 gs := E
         have W3 : WRel π1 u1 w2 := W2.on u1.tape w2.tape
         obtain ⟨O, H2, S2⟩ := ord_of_eff (ty := ty) (es := es) H S1 E' (fun e he => by simpa using hes e he) W2
         exact ⟨_, _, _, _, hst, O, ih (g1, u1) ⟨⟨π, b', rr, _, w, hg0, W⟩, hc, hfin, hnx⟩ π1 g1' w2 _ hrel W3 hc1 (A1.eff S0 H S1 E') H2 S2⟩
       · exfalso
         cases eb
         obtain ⟨_, _, _, _, _, ⟨f3, f4, cs3, cs4, e3, -, -, hf3⟩, -⟩ := hk1
         simp only [live, Goroutine.mk.injEq] at e3
         obtain ⟨ds, e4, -⟩ := hf3.calm
         have : ([] : List Frame) = ds ++ [door P] := e3.2.1.trans e4
         simp at this
theorem bridge [Runs] (hq : ∀ o, ¬ Runs.orc o) (ok : POk P) (hf : FnsOk P) (hb : BodiesOk P) {f : FuncId} {args args' : Array Value} {u : World} (hfn : Env.fnOk f) (hargs : VsRel π0 args args') (W : WRel π0 u w0) (H : Held c0 π0) (S : Snug c0 w0)
   (hcall : ∀ t, Calls P f args (World.on u t) fun e w => ∃ v, e = .returned v /\ Post v w) (hpost : ∀ v u t, Post v u -> Post v (World.on u t)) (K : Cont ty P FinN c0 π0 w0 Post b' rr) :
   Sc ty P FinN c0 (live (Frame.enter P f args' .normal) (b' :: rr)) w0 := by
 refine bridge_go hq (s := (live (Frame.enter P f args .normal) [door P], u)) ok hf hb S K hpost Comes.acc π0 _ w0 c0 ⟨_, _, _, _, rfl, rfl, FrRel.enter hb (Runs.inc _ hfn) hargs, .base⟩ W ?_ (.refl c0 π0 w0) H S
 intro t
 obtain ⟨s, hs, k, g1, u1, h1, h2, h3, v, h4, h5⟩ := comes_of_calls hcall t
 exact ⟨s, hs, k, g1, u1, h1, h2, u1.tape, v, h4, h5⟩
end
end Go.Eq
namespace Go.Eq
open Go
def flatB : Value -> Bool
 | .bool _ | .int _ _ | .string _ | .pointer none | .slice none _ _ | .map none | .nilFunc | .nilIface => true
 | _ => false
def closed1B : Value -> Bool
 | .agg c => c.all flatB
 | v => flatB v
def closedB : Value -> Bool
 | .tuple c => c.all closed1B
 | v => closed1B v
def scalarB (P : Program) (t : TypeId) : Bool :=
 match P.underlying t with
 | some (.int _) => match P.info? t with
   | some i => match i.desc with
     | .named n _ => n != "sync.copyChecker"
     | _ => true
   | none => true
 | some .string | some .bool => true
 | _ => false
def convB (P : Program) (s d : TypeId) : Bool :=
 match P.underlying s, P.underlying d with
 | some (.int _), some (.int _) => true
 | some (.slice e), some .string => match P.underlying e with
   | some (.int .u8) => true
   | _ => false
 | _, _ => false
def eqB : BinOp -> Bool
 | .eql | .neq => true
 | _ => false
def notIntB (P : Program) (x : TypeId) : Bool :=
 match P.underlying x with
 | some (.int _) => false
 | _ => true
def elemB (P : Program) (t : TypeId) : Bool :=
 match P.underlying t with
 | some (.slice e) => decide (e < P.types.size)
 | _ => true
def mapKB (P : Program) (t : TypeId) : Bool :=
 match P.underlying t with
 | some (.map kt _) => scalarB P kt
 | _ => true
def mapB (P : Program) (t : TypeId) : Bool :=
 match P.underlying t with
 | some (.map kt el) => scalarB P kt && decide (el < P.types.size)
 | _ => true
def isMapB (P : Program) (t : TypeId) : Bool :=
 match P.underlying t with
 | some (.map _ _) => true
 | _ => false
def ptrB (P : Program) (t : TypeId) : Bool :=
 match P.underlying t with
 | some (.pointer _) => true
 | _ => false
def structB (P : Program) (t : TypeId) : Bool :=
 match P.underlying t with
 | some (.struct fs) => fs.all fun f => scalarB P f.type
 | _ => false
def nilB : Operand -> Bool
 | .const (.pointer none) => true
 | _ => false
def opB (P : Program) (mp : Bool) (fns : List Nat) (o : Op) : Bool :=
 match o with
 | .extract _ _ | .unOp _ _ _ | .range _ _ | .entry _ => true
 | .next _ _ => mp
 | .makeMap _ none => true
 | .makeFunc (.func f) _ _ => fns.contains f
 | .lookup t _ _ _ => mapB P t
 | .mapUpdate t _ _ _ => mp && mapKB P t
 | .alloc t | .build t _ => decide (t < P.types.size)
 | .buildSlice t _ _ | .makeSlice t _ _ => elemB P t
 | .move _ | .assign _ | .pick _ _ _ | .box _ _ | .load _ _ | .store _ _ _ | .nilCheck _ | .slice _ _ _ _ _ | .fieldAddr _ _ _ | .indexAddr _ _ _ | .index _ _ _ => true
 | .binOp op t _ y _ => (!eqB op || scalarB P t) || (eqB op && ptrB P t && nilB y) || (eqB op && structB P t)
 | .convert s d _ => convB P s d
 | .call c => match c.callee with
   | .value _ => true
   | .builtin .len | .builtin .min | .builtin .max | .builtin .copy => true
   | .builtin .unsafeString => mp
   | .builtin .delete => mp && (match c.argTypes[0]? with
     | none => true
     | some x => mapKB P x)
   | .builtin .clear => mp && (match c.argTypes[0]? with
     | none => true
     | some x => isMapB P x)
   | .builtin .append => (match c.argTypes[0]? with
     | none => true
     | some x => elemB P x) && (match c.argTypes[1]? with
     | none => true
     | some x => notIntB P x)
   | _ => false
 | _ => false
def opdB (fns : List Nat) : Operand -> Bool
 | .tmp _ => true
 | .const v => closedB v
 | .global _ => false
 | .func f => fns.contains f
def operB (P : Program) (mp : Bool) (fns : List Nat) (o : Oper) : Bool := opB P mp fns o.op && o.op.operands.all (opdB fns)
def codeB (P : Program) (mp rf : Bool) (fns : List Nat) : Code -> Bool
 | .region _ ops _ => ops.all (operB P mp fns)
 | .seq a b => codeB P mp rf fns a && codeB P mp rf fns b
 | .cond c a b => opdB fns c && codeB P mp rf fns a && codeB P mp rf fns b
 | .block _ b | .loop b | .scope b => codeB P mp rf fns b
 | .rangeFunc f _ a b => mp && rf && opdB fns f && codeB P mp rf fns a && codeB P mp rf fns b
 | .goto _ => false
 | _ => true
def bodyR (P : Program) (mp rf : Bool) (fns : List Nat) (f : Nat) : Bool :=
 match P.funcs[f]? with
 | some fn => match fn.body with
   | some c => codeB P mp rf fns c && !(fn.name == "runtime.NumGoroutine")
   | none => false
 | none => false
def bodyM (P : Program) (mp : Bool) (fns : List Nat) (f : Nat) : Bool := bodyR P mp false fns f
def bodyB (P : Program) (fns : List Nat) (f : Nat) : Bool := bodyM P false fns f
def zerosB (P : Program) : Bool := P.types.all fun i => match i.zero with
 | some v => closedB v
 | none => true
@[reducible] def envOf (fns : List Nat) (sealed : Nat -> Prop) (low : Nat) : Env := { fnOk := fun f => f ∈ fns, codeOk := fun _ => False, sealed := sealed, low := low }
@[reducible] def envR (P : Program) (fns : List Nat) (low : Nat) : Env := { fnOk := fun f => f ∈ fns, codeOk := fun c => codeB P true true fns c = true, sealed := fun _ => False, low := low }
structure EnvFor [Env] (P : Program) (mp rf : Bool) (fns : List Nat) : Prop where
 fn : ∀ f, Env.fnOk f ↔ f ∈ fns
 ns : mp = true -> ∀ b, ¬ Env.sealed b
 code : ∀ c, Env.codeOk c ↔ rf = true /\ mp = true /\ codeB P mp rf fns c = true
theorem envOf_for {P : Program} {mp : Bool} {fns : List Nat} {sealed : Nat -> Prop} {low : Nat} (hm : mp = true -> ∀ b, ¬ sealed b) : @EnvFor (envOf fns sealed low) P mp false fns :=
 @EnvFor.mk (envOf fns sealed low) _ _ _ _ (fun f => Iff.rfl) hm fun c => ⟨fun h => h.elim, fun h => by cases h.1⟩
theorem envR_for {P : Program} {fns : List Nat} {low : Nat} : @EnvFor (envR P fns low) P true true fns :=
 @EnvFor.mk (envR P fns low) _ _ _ _ (fun _ => Iff.rfl) (fun _ _ h => h) fun _ => ⟨fun h => ⟨rfl, rfl, h⟩, fun h => h.2.2⟩
section
variable [Env] {P : Program} {fns : List Nat} {mp rf : Bool}
theorem flatB_ok {v : Value} (h : flatB v = true) : Closed v := by
 intro π
 unfold flatB at h
 split at h
 · exact .bool _
 · exact .int _ _
 · exact .string _
 · exact .pnil
 · exact .snil _ _
 · exact .mnil
 · exact .nilFunc
 · exact .nilIface
 · cases h
theorem allB_ok {c : Array Value} (h : c.all flatB = true) (π : Ren) : VsRel π c c := by
 refine .of_get? rfl fun i v v' e e' => ?_
 rw [e] at e'; cases e'
 rw [Array.all_eq_true'] at h
 exact flatB_ok (h v (Array.mem_of_getElem? e)) π
theorem closed1B_ok {v : Value} (h : closed1B v = true) : Closed v := by
 intro π
 unfold closed1B at h
 split at h
 · have hx : VsRel π _ _ := allB_ok h π
   exact .agg hx.1 hx.2
 · exact flatB_ok h π
theorem closedB_ok {v : Value} (h : closedB v = true) : Closed v := by
 intro π
 unfold closedB at h
 split at h
 · rename_i c
   have hx : VsRel π c c := by
     refine .of_get? rfl fun i v v' e e' => ?_
     rw [e] at e'; cases e'
     rw [Array.all_eq_true'] at h
     exact closed1B_ok (h v (Array.mem_of_getElem? e)) π
   exact .tuple hx.1 hx.2
 · exact closed1B_ok h π
omit [Env] in
theorem scalarB_ok {t : TypeId} (h : scalarB P t = true) : Scalar P t := by
 unfold scalarB at h
 split at h
 · rename_i k hk
   refine .inl ⟨⟨k, hk⟩, fun i u hi hd => ?_⟩
   rw [hi] at h
   simp only [hd] at h
   simp at h
 · rename_i hk; exact .inr (.inl hk)
 · rename_i hk; exact .inr (.inr hk)
 · cases h
omit [Env] in
theorem convB_ok {s d : TypeId} (h : convB P s d = true) : ConvOk P s d := by
 unfold convB at h
 split at h
 · rename_i k k' h1 h2; exact .inl ⟨k, k', h1, h2⟩
 · rename_i e h1 h2
   refine .inr ⟨e, h1, ?_, h2⟩
   split at h
   · assumption
   · cases h
 · cases h
omit [Env] in
theorem elemB_ok {t : TypeId} (h : elemB P t = true) : ∀ e, P.underlying t = some (.slice e) -> e < P.types.size := by
 intro e he
 unfold elemB at h
 rw [he] at h
 simpa using h
omit [Env] in
theorem mapB_ok {t : TypeId} (h : mapB P t = true) : ∀ kt el, P.underlying t = some (.map kt el) -> Scalar P kt /\ el < P.types.size := fun kt el e => by
 unfold mapB at h
 rw [e] at h
 simp only [Bool.and_eq_true, decide_eq_true_eq] at h
 exact ⟨scalarB_ok h.1, h.2⟩
omit [Env] in
theorem mapKB_ok {t : TypeId} (h : mapKB P t = true) : ∀ kt el, P.underlying t = some (.map kt el) -> Scalar P kt := fun kt el e => by
 unfold mapKB at h
 rw [e] at h
 exact scalarB_ok h
omit [Env] in
theorem isMapB_ok {t : TypeId} (h : isMapB P t = true) : ∃ kt el, P.underlying t = some (.map kt el) := by
 unfold isMapB at h
 split at h
 · exact ⟨_, _, by assumption⟩
 · cases h
theorem opB_ok {o : Oper} (hE : EnvFor P mp rf fns) (h : opB P mp fns o.op = true) : Fit P o := by
 have hm := hE.ns
 unfold Fit
 unfold opB at h
 cases ho : o.op <;> rw [ho] at h <;> simp only [] at h ⊢ <;> first | trivial | cases h | skip
 case alloc t => simpa using h
 case build t ps => simpa using h
 case buildSlice t n ps => exact elemB_ok h
 case makeSlice t l c => exact elemB_ok h
 case binOp op t x y yt =>
   rw [Bool.or_eq_true, Bool.or_eq_true] at h
   have hEq : eqB op = true -> EqOp op := fun h1 => by cases op <;> first | exact .inl rfl | exact .inr rfl | cases h1
   rcases h with (h | h) | h
   rotate_left 2
   · rw [Bool.and_eq_true] at h
     refine .inr (.inr ⟨hEq h.1, ?_⟩)
     have h2 := h.2
     unfold structB at h2
     split at h2
     · rename_i fs hfs
       rw [Array.all_eq_true'] at h2
       exact ⟨fs, hfs, fun f hf => scalarB_ok (h2 f hf)⟩
     · cases h2
   · refine .inl fun hE => ?_
     rcases hE with rfl | rfl <;> exact scalarB_ok (by simpa [eqB] using h)
   · simp only [Bool.and_eq_true] at h
     obtain ⟨⟨h1, h2⟩, h3⟩ := h
     refine .inr (.inl ⟨hEq h1, ?_, ?_⟩)
     · unfold ptrB at h2
       split at h2
       · exact ⟨_, by assumption⟩
       · cases h2
     · unfold nilB at h3
       split at h3
       · rfl
       · cases h3
 case convert s d x => exact convB_ok h
 case next x b => exact hm rfl
 case lookup t x k c => exact mapB_ok h
 case mapUpdate t m k x =>
   simp only [Bool.and_eq_true] at h
   exact ⟨hm h.1, mapKB_ok h.2⟩
 case makeFunc fn x c =>
   cases fn with
   | func f => exact ⟨f, rfl, (hE.fn f).2 (by simpa using h)⟩
   | _ => cases h
 case makeMap t r =>
   cases r with
   | none => rfl
   | some x => cases h
 case call c =>
   cases hc : c.callee with
   | value f => trivial
   | invoke r n => rw [hc] at h; cases h
   | builtin b =>
     rw [hc] at h
     cases b <;> first | cases h | skip
     case append =>
       have h2 : ((match c.argTypes[0]? with
         | none => true
         | some x => elemB P x) && (match c.argTypes[1]? with
         | none => true
         | some x => notIntB P x)) = true := h
       rw [Bool.and_eq_true] at h2
       refine ⟨fun x hx => ?_, fun x hx k hk => ?_⟩
       · have := h2.1
         rw [hx] at this
         exact elemB_ok this
       · have := h2.2
         rw [hx] at this
         simp [notIntB, hk] at this
     all_goals first | exact True.intro | skip
     case unsafeString.refl => exact hm rfl
     case delete =>
       have h2 : (mp && (match c.argTypes[0]? with
         | none => true
         | some x => mapKB P x)) = true := h
       rw [Bool.and_eq_true] at h2
       refine ⟨hm h2.1, fun t ht => ?_⟩
       have h3 := h2.2
       rw [ht] at h3
       exact mapKB_ok h3
     case clear =>
       have h2 : (mp && (match c.argTypes[0]? with
         | none => true
         | some x => isMapB P x)) = true := h
       rw [Bool.and_eq_true] at h2
       refine ⟨hm h2.1, fun t ht => ?_⟩
       have h3 := h2.2
       rw [ht] at h3
       exact isMapB_ok h3
theorem opdB_ok {x : Operand} (hE : EnvFor P mp rf fns) (h : opdB fns x = true) : OpdOk x := by
 cases x with
 | tmp t => trivial
 | const v => exact closedB_ok h
 | global g => cases h
 | func f => exact (hE.fn f).2 (by simpa [opdB] using h)
theorem operB_ok {o : Oper} (hE : EnvFor P mp rf fns) (h : operB P mp fns o = true) : OperFit P o := by
 unfold operB at h
 rw [Bool.and_eq_true] at h
 refine ⟨opB_ok hE h.1, fun x hx => ?_⟩
 have h2 := h.2
 rw [Array.all_eq_true'] at h2
 exact opdB_ok hE (h2 x hx)
theorem codeB_ok (hE : EnvFor P mp rf fns) : ∀ {c : Code}, codeB P mp rf fns c = true -> @CodeFit _ plainRuns P c
 | .region _ ops _, h => by
   intro i o ho
   right
   simp only [codeB] at h
   rw [Array.all_eq_true'] at h
   exact operB_ok hE (h o (Array.mem_of_getElem? ho))
 | .seq a b, h => by
   simp only [codeB, Bool.and_eq_true] at h
   exact ⟨codeB_ok hE h.1, codeB_ok hE h.2⟩
 | .cond c a b, h => by
   simp only [codeB, Bool.and_eq_true] at h
   exact ⟨opdB_ok hE h.1.1, codeB_ok hE h.1.2, codeB_ok hE h.2⟩
 | .block _ b, h | .loop b, h | .scope b, h => codeB_ok hE (c := b) h
 | .rangeFunc f _ a b, h => by
   simp only [codeB, Bool.and_eq_true] at h
   obtain ⟨⟨⟨⟨h1, h2⟩, h3⟩, h4⟩, h5⟩ := h
   exact ⟨opdB_ok hE h3, (hE.code a).2 ⟨h2, h1, h4⟩, (hE.code b).2 ⟨h2, h1, h5⟩⟩
 | .goto _, h => by cases h
 | .skip, _ | .label _, _ | .exit _, _ | .ret, _ | .refuse _, _ => trivial
theorem rf_ok (hE : EnvFor P mp rf fns) (h1 : mp = true) (h2 : rf = true) : Rf :=
 ⟨hE.ns h1, (hE.code _).2 ⟨h2, h1, rfl⟩, fun _ => (hE.code _).2 ⟨h2, h1, rfl⟩⟩
theorem bodies_okE (hE : EnvFor P mp rf fns) (h : fns.all (bodyR P mp rf fns) = true) : @BodiesOk _ plainRuns P /\ FnsOk P := by
 have key : ∀ f, f ∈ fns -> ∃ fn c, P.funcs[f]? = some fn /\ fn.body = some c /\ codeB P mp rf fns c = true /\ (fn.name == "runtime.NumGoroutine") = false := by
   intro f hf
   have h1 := List.all_eq_true.1 h f hf
   unfold bodyR at h1
   split at h1
   · rename_i fn hfn
     split at h1
     · rename_i c hc
       rw [Bool.and_eq_true] at h1
       exact ⟨fn, c, hfn, hc, h1.1, by simpa using h1.2⟩
     · cases h1
   · cases h1
 refine ⟨⟨fun f hf => ?_, fun c hc => ?_⟩, fun f hf => ?_⟩
 · obtain ⟨fn, c, h1, h2, h3, -⟩ := key f ((hE.fn f).1 hf)
   exact ⟨fn, c, h1, h2, codeB_ok hE h3⟩
 · obtain ⟨h1, h2, h3⟩ := (hE.code c).1 hc
   exact ⟨codeB_ok hE h3, rf_ok hE h2 h1⟩
 · obtain ⟨fn, c, h1, h2, -, h4⟩ := key f ((hE.fn f).1 hf)
   exact ⟨fn, h1, h4, by rw [h2]; rfl⟩
theorem zeros_okE (h : zerosB P = true) (hl : P.globals.size <= Env.low) : POk P := by
 refine ⟨hl, fun t i v ht h1 h2 => ?_⟩
 have hm : i ∈ P.types := by
   unfold Tables.info? at h1
   rw [if_pos ht] at h1
   exact Array.mem_of_getElem? h1
 unfold zerosB at h
 rw [Array.all_eq_true'] at h
 have := h i hm
 rw [h2] at this
 exact closedB_ok this
end
section
variable {P : Program} {fns : List Nat} {sealed : Nat -> Prop} {low : Nat}
theorem bodies_okM {mp : Bool} (hm : mp = true -> ∀ b, ¬ sealed b) (h : fns.all (bodyM P mp fns) = true) : @BodiesOk (envOf fns sealed low) (@plainRuns (envOf fns sealed low)) P /\ @FnsOk (envOf fns sealed low) P :=
 @bodies_okE (envOf fns sealed low) _ _ _ _ (envOf_for hm) h
theorem bodies_ok (h : fns.all (bodyB P fns) = true) : @BodiesOk (envOf fns sealed low) (@plainRuns (envOf fns sealed low)) P /\ @FnsOk (envOf fns sealed low) P :=
 bodies_okM (mp := false) (fun e => by cases e) h
theorem zeros_ok (h : zerosB P = true) (hl : P.globals.size <= low) : @POk (envOf fns sealed low) P := @zeros_okE (envOf fns sealed low) _ h hl
theorem fit_all (h : fns.all (bodyR P true true fns) = true) (hz : zerosB P = true) (hl : P.globals.size <= low) : @BodiesOk (envR P fns low) (@plainRuns (envR P fns low)) P /\ @FnsOk (envR P fns low) P /\ @POk (envR P fns low) P :=
 have h1 := @bodies_okE (envR P fns low) _ _ _ _ envR_for h
 ⟨h1.1, h1.2, @zeros_okE (envR P fns low) _ hz hl⟩
end
end Go.Eq
