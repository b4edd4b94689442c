/- THE RUN OF A CALL WHOSE FIRST GOROUTINE FOLLOWS A. -/
import Derived.Test.YtddcbeeldjjmeaaGreatPart9
import Derived.Test.YtddcbeeldjjmeaaGreatPart3
import Derived.Conc.Holds
import Derived.Handy
import Derived.Below
namespace Go.Nest
open Go Go.Conc Go.Eq
open Go.ConcR (DC0)
def Returns (P : Program) (v : Value) (g : Goroutine) : Prop := g.status = .running /\ ∀ w, stepG P true g w = .ended (.done v) w #[]
def EndN (P : Program) (Post : Value -> World -> Prop) : Perm -> Perm -> Goroutine -> World -> Prop := fun _ _ g w => ∃ v, Returns P v g /\ ∀ d, Post v (w.at d)
def mainCfg (o r : Perm) : Cfg := { main := true, own := o, rd := r, deaf := 0, cur := none, pend := false, ub := 0, kids := [], up := none }
theorem script_runs {ty : TypeId} {P : Program} {Post : Value -> World -> Prop} {g : Goroutine} {W : World} {o r : Perm} (ho : ∀ a, o a \/ r a -> a.block < W.heap.size) (hS : ScS ty P (EndN P Post) .work (mainCfg o r) g W) :
   ∃ N last ou w' t', runNT P (N + 1) (solo g W) #[] = (.ended ou w', t') /\ runN P N (solo g W) = .next last /\ step P last = .ended ou w' /\ Conc.Good P Post last ou w' t' := by
 obtain ⟨n, hS⟩ := hS
 obtain ⟨N, m, t1, h1, gs, g1, w1, sl, q, Wd, own, rd, rfl, h2, h3, ⟨v, hv, hp⟩, hL, hP, -⟩ := nest (ty := ty) (Fin := EndN P Post) (Shun := fun _ => False) (Z := fun _ => False) (q := fun _ => 0) (sl := none) (fun o r g w d ⟨v, h1, h2⟩ => ⟨v, h1, fun d' => h2 d'⟩)
   (gs := #[g]) (g := g) (w := W) (t := #[]) rfl (leavers_one _ _) (past_nil.mono (Nat.zero_le _)) (fun _ h => h.elim) (fun _ h => h.elim) (fun a ha => ⟨ho a ha, fun h => h⟩) hS
 obtain ⟨M, last, ou, w', t', e1, e2, e3, e4⟩ := beside_ends (P := P) (Post := Post) (D := DC0) (sl := sl) (n := 0) (fun w w' es h e he => by rw [h.2] at he; simp at he) h2 hL hP (fun w₁ hw => by
   obtain ⟨d, rfl⟩ := hw
   exact ⟨hv.1, v, #[], hv.2 _, fun e he => by simp at he, hp d⟩)
 refine ⟨N + M, last, ou, w', t', ?_, ?_, e3, e4⟩
 . rw [Nat.add_assoc, runNT_add, solo_eq_crowd, h1]; exact e1
 . rw [runN_add, <- runNT_fst P _ _ #[], solo_eq_crowd, h1]; exact e2
end Go.Nest
namespace Go.Eq
open Go Go.Conc Go.Nest
open Go.ConcN (WgLive)
theorem ev_eq {a : Act} {j : Nat} {v : Value} (h : j < a.tmps.size) : (a.put (some j) v).tmps[j]?.getD undef = v := by
 simp [Act.put, h]
theorem ev_ne {a : Act} {i j : Nat} {v : Value} (h : i ≠ j) : (a.put (some i) v).tmps[j]?.getD undef = a.tmps[j]?.getD undef := by
 simp [Act.put, h]
theorem size_put {a : Act} {d : Option Nat} {v : Value} : (a.put d v).tmps.size = a.tmps.size := by
 cases d <;> simp [Act.put]
theorem defers_put {a : Act} {d : Option Nat} {v : Value} : (a.put d v).defers = a.defers := by
 cases d <;> rfl
theorem eval_tmp (a : Act) (j : Nat) : a.eval (.tmp j) = a.tmps[j]?.getD undef := by
 simp [Act.eval, Array.getD_eq_getD_getElem?]
section
variable [Env] [Runs] {P : Program} {Orc : Oracle} {Stop : Frame -> World -> Prop} {u : World} {b : Frame} {a : Act} {k : List Item} {cs : List Frame} {ops : Array Oper} {i : Nat} {rest : List Nat} {o : Oper}
omit [Env] [Runs] in
theorem wanted_none (h : o.guard = none) (ys : Nat -> Option Bool) : Region.wanted o ys = true := by simp [Region.wanted, h]
theorem LSc.mv (d : Nat) (v : Value) (x : Operand) (hk : b.kind = .normal) (hf : ¬ Runs.orc o) (ho : ops[i]? = some o) (hg : o.guard = none) (hd : o.dst = some d) (hop : o.op = .move x \/ o.op = .assign x) (hx : a.eval x = v)
   (K : LSc P Orc Stop (G (b.at (a.put (some d) v) (.inRegion ops rest :: k)) cs) u) : LSc P Orc Stop (G (b.at a (.inRegion ops (i :: rest) :: k)) cs) u :=
 LSc.val (v := v) (u' := u) hf ho (wanted_none hg _) (by rw [hk]; decide) (fun t => by rw [<- hx]; rcases hop with e | e <;> simp [execOp, e]) (by rw [hd]; exact K)
theorem LSc.nilc (d : Nat) (x : Operand) (p : Addr) (hk : b.kind = .normal) (hf : ¬ Runs.orc o) (ho : ops[i]? = some o) (hg : o.guard = none) (hd : o.dst = some d) (hop : o.op = .nilCheck x) (hx : a.eval x = .pointer (some p))
   (K : LSc P Orc Stop (G (b.at (a.put (some d) (.pointer (some p))) (.inRegion ops rest :: k)) cs) u) : LSc P Orc Stop (G (b.at a (.inRegion ops (i :: rest) :: k)) cs) u :=
 LSc.val (u' := u) hf ho (wanted_none hg _) (by rw [hk]; decide) (fun t => by unfold execOp; rw [hop]; simp only [hx]; rfl) (by rw [hd]; exact K)
theorem LSc.fld (d : Nat) (x : Operand) (s n : Nat) (p q : Addr) (hk : b.kind = .normal) (hf : ¬ Runs.orc o) (ho : ops[i]? = some o) (hg : o.guard = none) (hd : o.dst = some d) (hop : o.op = .fieldAddr s x n) (hx : a.eval x = .pointer (some p))
   (hr : ∀ w, (Instr.fieldAt s (.pointer (some p)) n).run P w = .ok (.pointer (some q)) w)
   (K : LSc P Orc Stop (G (b.at (a.put (some d) (.pointer (some q))) (.inRegion ops rest :: k)) cs) u) : LSc P Orc Stop (G (b.at a (.inRegion ops (i :: rest) :: k)) cs) u :=
 LSc.val (v := .pointer (some q)) (u' := u) hf ho (wanted_none hg _) (by rw [hk]; decide) (fun t => by simp [execOp, hop, hx, hr, Result.andThen]) (by rw [hd]; exact K)
theorem LSc.ld (d : Nat) (x : Operand) (t : TypeId) (p : Addr) (v : Value) (hk : b.kind = .normal) (hf : ¬ Runs.orc o) (ho : ops[i]? = some o) (hg : o.guard = none) (hd : o.dst = some d) (hop : o.op = .load t x) (hx : a.eval x = .pointer (some p))
   (hr : ∀ t', (Instr.loadAt t (.pointer (some p))).run P (World.on u t') = .ok v (World.on u t'))
   (K : LSc P Orc Stop (G (b.at (a.put (some d) v) (.inRegion ops rest :: k)) cs) u) : LSc P Orc Stop (G (b.at a (.inRegion ops (i :: rest) :: k)) cs) u :=
 LSc.val (v := v) (u' := u) hf ho (wanted_none hg _) (by rw [hk]; decide) (fun t => by simp [execOp, hop, hx, hr, Result.andThen]) (by rw [hd]; exact K)
omit [Env] in
theorem free_code [Env] [Runs] {c : Code} : Free (G (b.at a (.code c :: k)) cs) := fun ops i is k o e => by simp [G, Frame.at] at e
theorem free_item {x : Item} (h : ∀ ops is, x ≠ .inRegion ops is) : Free (G (b.at a (x :: k)) cs) := fun ops i is k' o e => by
 simp only [G, Frame.at, List.cons.injEq] at e
 exact absurd e.1 (h _ _)
omit [Env] [Runs] in
theorem calm_at {t : List Item} : (G (b.at a t) cs).frame.mode = .returning \/ (G (b.at a t) cs).frame.roundOf ≠ none -> (G (b.at a t) cs).callers ≠ [] := fun e => e.elim (fun e => by cases e) fun e => absurd rfl e
theorem LSc.c_seq {x y : Code} (K : LSc P Orc Stop (G (b.at a (.code x :: .code y :: k)) cs) u) : LSc P Orc Stop (G (b.at a (.code (.seq x y) :: k)) cs) u :=
 LSc.ctl free_code calm_at (fun _ => stepG_seq) (mode_at _ _ _ _) K
theorem LSc.c_cond {c : Operand} {x y : Code} (t : Bool) (h : a.eval c = .bool t) (K : LSc P Orc Stop (G (b.at a (.code (if t then x else y) :: k)) cs) u) : LSc P Orc Stop (G (b.at a (.code (.cond c x y) :: k)) cs) u :=
 LSc.ctl free_code calm_at (fun _ => stepG_cond h) (mode_at _ _ _ _) K
theorem LSc.c_skip (K : LSc P Orc Stop (G (b.at a k) cs) u) : LSc P Orc Stop (G (b.at a (.code .skip :: k)) cs) u :=
 LSc.ctl free_code calm_at (fun _ => stepG_skip) (mode_at _ _ _ _) K
theorem LSc.c_block {id : Nat} {c : Code} (K : LSc P Orc Stop (G (b.at a (.code c :: .inBlock id :: k)) cs) u) : LSc P Orc Stop (G (b.at a (.code (.block id c) :: k)) cs) u :=
 LSc.ctl free_code calm_at (fun _ => stepG_block) (mode_at _ _ _ _) K
theorem LSc.c_inBlock {id : Nat} (K : LSc P Orc Stop (G (b.at a k) cs) u) : LSc P Orc Stop (G (b.at a (.inBlock id :: k)) cs) u :=
 LSc.ctl (free_item (fun _ _ e => by cases e)) calm_at (fun _ => stepG_inBlock) (mode_at _ _ _ _) K
theorem LSc.c_loop {c : Code} (K : LSc P Orc Stop (G (b.at a (.code c :: .inLoop c :: k)) cs) u) : LSc P Orc Stop (G (b.at a (.code (.loop c) :: k)) cs) u :=
 LSc.ctl free_code calm_at (fun _ => stepG_loop) (mode_at _ _ _ _) K
theorem LSc.c_inLoop {c : Code} (K : LSc P Orc Stop (G (b.at a (.code c :: .inLoop c :: k)) cs) u) : LSc P Orc Stop (G (b.at a (.inLoop c :: k)) cs) u :=
 LSc.ctl (free_item (fun _ _ e => by cases e)) calm_at (fun _ => stepG_inLoop) (mode_at _ _ _ _) K
theorem LSc.c_exit {id : Nat} {k' : List Item} (h : exitTo id k = some k') (K : LSc P Orc Stop (G (b.at a k') cs) u) : LSc P Orc Stop (G (b.at a (.code (.exit id) :: k)) cs) u :=
 LSc.ctl free_code calm_at (fun _ => stepG_exit h) (mode_at _ _ _ _) K
theorem LSc.c_region {id : Nat} {ops : Array Oper} (K : LSc P Orc Stop (G (b.at a (.inRegion ops (List.range ops.size) :: k)) cs) u) : LSc P Orc Stop (G (b.at a (.code (.region id ops false) :: k)) cs) u :=
 LSc.ctl free_code calm_at (fun _ => stepG_region) (mode_at _ _ _ _) K
theorem LSc.c_rend {ops : Array Oper} (K : LSc P Orc Stop (G (b.at a k) cs) u) : LSc P Orc Stop (G (b.at a (.inRegion ops [] :: k)) cs) u :=
 LSc.ctl (fun ops i is k o e => by simp [G, Frame.at] at e) calm_at (fun _ => stepG_region_end) (mode_at _ _ _ _) K
theorem LSc.leave {fn : Func} {todo : List Item} {c : Frame} {v : Value} (hn : b.kind = .normal) (hd : a.defers = []) (hf : P.funcs[b.fn]? = some fn) (ht : ∀ ops is k', todo ≠ .inRegion ops is :: k')
   (hr : ∀ w, (results fn a.tmps).run P w = .ok v w) (he : ∀ w, (results fn a.tmps).events P w #[] = #[]) (hm : ∀ ch, (c.finish v).mode ≠ .panicking ch) (K : LSc P Orc Stop (live (c.finish v) cs) u) : LSc P Orc Stop (live { b.at a todo with mode := .returning } (c :: cs)) u := by
 refine LSc.step (fun _ => G (c.finish v) cs) (fun _ => u) (fun ops i is k o e => absurd e (ht _ _ _)) (fun _ => by simp [live]) (fun t => ⟨_, stepG_leave hn hd hf (hr _) (he _)⟩) (fun _ => hm) fun _ => K
theorem LSc.callAt (d : Nat) {f : FuncId} {fn : Func} {cd : Code} {args : Array Operand} {ats : Array TypeId} {Post : Value -> World -> Prop} (hk : b.kind = .normal) (ho : ops[i]? = some o) (hg : o.guard = none) (hd : o.dst = some d) (hop : o.op = .call { callee := .value (.func f), args, argTypes := ats })
   (hf : P.funcs[f]? = some fn) (hn : (fn.name == "runtime.NumGoroutine") = false) (hb : fn.body = some cd) (ha : ∀ x, x ∈ args -> OpdOk x) {vs : Array Value} (hv : args.map a.eval = vs) (hO : Orc f vs u Post)
   (K : ∀ x u', Post x u' -> LSc P Orc Stop (G (b.at (a.put (some d) x) (.inRegion ops rest :: k)) cs) u') : LSc P Orc Stop (G (b.at a (.inRegion ops (i :: rest) :: k)) cs) u := by
 subst hv
 have ee : args.map (b.at a (.inRegion ops (i :: rest) :: k)).eval = args.map a.eval := by rw [Frame.eval_at']
 refine LSc.call (f := f) (args := args) (Post := Post) ⟨rfl, hk, rfl, ⟨ops, i, rest, k, o, ats, fn, cd, rfl, ho, wanted_none hg _, hop, hf, hn, hb⟩, ha⟩ (by rw [ee]; exact hO) fun x u' hp => ?_
 rw [Frame.finish_at, ho, show ((some o).bind fun x => x.dst) = some d from hd]
 exact K x u' hp
theorem LSc.enterAt {f : FuncId} {fn : Func} {cd : Code} {args : Array Operand} {ats : Array TypeId} (hk : b.kind = .normal) (ho : ops[i]? = some o) (hg : o.guard = none) (hop : o.op = .call { callee := .value (.func f), args, argTypes := ats })
   (hf : P.funcs[f]? = some fn) (hn : (fn.name == "runtime.NumGoroutine") = false) (hb : fn.body = some cd) (ha : ∀ x, x ∈ args -> OpdOk x) {vs : Array Value} (hv : args.map a.eval = vs) (hR : Runs.runs f)
   (K : LSc P Orc Stop (live (Frame.enter P f vs .normal) (b.at a (.inRegion ops (i :: rest) :: k) :: cs)) u) : LSc P Orc Stop (G (b.at a (.inRegion ops (i :: rest) :: k)) cs) u := by
 subst hv
 have ee : args.map (b.at a (.inRegion ops (i :: rest) :: k)).eval = args.map a.eval := by rw [Frame.eval_at']
 refine LSc.enter (f := f) (args := args) ⟨rfl, hk, rfl, ⟨ops, i, rest, k, o, ats, fn, cd, rfl, ho, wanted_none hg _, hop, hf, hn, hb⟩, ha⟩ hR ?_
 rw [ee]
 exact K
theorem LSc.retAt {fn : Func} {c : Frame} {v : Value} (hn : b.kind = .normal) (hd : a.defers = []) (hf : P.funcs[b.fn]? = some fn)
   (hr : ∀ w, (results fn a.tmps).run P w = .ok v w) (he : ∀ w, (results fn a.tmps).events P w #[] = #[]) (hm : ∀ v ch, (c.finish v).mode ≠ .panicking ch) (K : LSc P Orc Stop (live (c.finish v) cs) u) : LSc P Orc Stop (G (b.at a (.code .ret :: k)) (c :: cs)) u :=
 LSc.ctl free_code calm_at (fun _ => stepG_ret') (fun ch e => by cases e) (LSc.leave hn hd hf (fun _ _ _ e => by cases e) hr he (hm v) K)
def RunsTo (P : Program) (Orc : Oracle) (Stop : Frame -> World -> Prop) (f : FuncId) (args : Array Value) (u : World) (Post : Value -> World -> Prop) : Prop :=
 ∀ (c : Frame) (cs : List Frame), (∀ v ch, (c.finish v).mode ≠ .panicking ch) -> (∀ x u', Post x u' -> LSc P Orc Stop (live (c.finish x) cs) u') -> LSc P Orc Stop (live (Frame.enter P f args .normal) (c :: cs)) u
end
end Go.Eq
namespace Go.Eq
open Go Go.Conc Go.Nest
def tm (a : Act) (j : Nat) : Value := a.tmps[j]?.getD undef
theorem act_out {a : Act} {n : Nat} (h : a.tmps.size = n) (hd : a.defers = []) : a = ⟨((List.range n).map (tm a)).toArray, []⟩ := by
 cases a with
 | mk t d =>
   simp only at h hd
   subst hd
   congr 1
   refine Array.ext (by simp [h]) fun i h1 h2 => ?_
   simp [tm, Array.getElem?_eq_getElem h1]
theorem tm_eval (a : Act) (j : Nat) : a.eval (.tmp j) = tm a j := by
 simp [Act.eval, tm]
theorem tm_eq {a : Act} {j : Nat} {v : Value} (h : j < a.tmps.size) : tm (a.put (some j) v) j = v := ev_eq h
theorem tm_ne {a : Act} {i j : Nat} {v : Value} (h : i ≠ j) : tm (a.put (some i) v) j = tm a j := ev_ne h
def cL : Code -> Code
 | .seq a _ => a
 | c => c
def cR : Code -> Code
 | .seq _ b => b
 | c => c
def cT : Code -> Code
 | .cond _ a _ => a
 | c => c
def cE : Code -> Code
 | .cond _ _ b => b
 | c => c
def cB : Code -> Code
 | .block _ b => b
 | .loop b => b
 | .scope b => b
 | c => c
def bodyOf (f : Func) : Code := f.body.getD .skip
def orcB (os : List Nat) (o : Oper) : Bool :=
 match o.op with
 | .call c => match c.callee with
   | .value (.func f) => os.contains f
   | _ => false
 | _ => false
def codeO (P : Program) (fns os : List Nat) : Code -> Bool
 | .region _ ops _ => ops.all fun o => orcB os o || operB P true fns o
 | .seq a b => codeO P fns os a && codeO P fns os b
 | .cond c a b => opdB fns c && codeO P fns os a && codeO P fns os b
 | .block _ b | .loop b | .scope b => codeO P fns os b
 | .rangeFunc f k a b => codeB P true true fns (.rangeFunc f k a b)
 | .goto _ => false
 | _ => true
def bodyO (P : Program) (fns os : List Nat) (f : Nat) : Bool :=
 match P.funcs[f]? with
 | some fn => match fn.body with
   | some c => codeO P fns os c
   | none => false
 | none => false
structure Setup [Env] [Runs] (P : Program) (fns outs orcs : List Nat) : Prop where
 env : EnvFor P true true fns
 orc : ∀ o, Runs.orc o ↔ orcB orcs o = true
 runs : ∀ f, Runs.runs f ↔ f ∈ fns \/ f ∈ outs
@[reducible] def runsOf [Env] (outs orcs : List Nat) : Runs := { runs := fun f => Env.fnOk f \/ f ∈ outs, orc := fun o => orcB orcs o = true, inc := fun _ h => .inl h }
theorem setup_of {P : Program} {fns outs orcs : List Nat} {low : Nat} : @Setup (envR P fns low) (@runsOf (envR P fns low) outs orcs) P fns outs orcs :=
 @Setup.mk (envR P fns low) (@runsOf (envR P fns low) outs orcs) _ _ _ _ envR_for (fun _ => Iff.rfl) fun _ => Iff.rfl
section
variable [Env] [Runs] {P : Program} {fns outs orcs : List Nat}
theorem codeO_ok (S : Setup P fns outs orcs) : ∀ {c : Code}, codeO P fns orcs c = true -> CodeFit P c
 | .region _ ops _, h => by
   intro i o ho
   simp only [codeO] at h
   rw [Array.all_eq_true'] at h
   have := h o (Array.mem_of_getElem? ho)
   rw [Bool.or_eq_true] at this
   exact this.imp (S.orc o).2 fun h => operB_ok S.env h
 | .seq a b, h => by
   simp only [codeO, Bool.and_eq_true] at h
   exact ⟨codeO_ok S h.1, codeO_ok S h.2⟩
 | .cond c a b, h => by
   simp only [codeO, Bool.and_eq_true] at h
   exact ⟨opdB_ok S.env h.1.1, codeO_ok S h.1.2, codeO_ok S h.2⟩
 | .block _ b, h | .loop b, h | .scope b, h => codeO_ok S (c := b) h
 | .rangeFunc f k a b, h => codeFit_up (codeB_ok S.env (c := .rangeFunc f k a b) h)
 | .goto _, h => by cases h
 | .skip, _ | .label _, _ | .exit _, _ | .ret, _ | .refuse _, _ => trivial
theorem bodies_okO (S : Setup P fns outs orcs) (hb : @BodiesOk _ plainRuns P) (h : outs.all (bodyO P fns orcs) = true) : BodiesOk P := by
 refine ⟨fun f hf => ?_, fun c hc => ?_⟩
 . rcases (S.runs f).1 hf with hf | hf
   . obtain ⟨fn, c, h1, h2, h3⟩ := hb.1 f ((S.env.fn f).2 hf)
     exact ⟨fn, c, h1, h2, codeFit_up h3⟩
   . have h1 := List.all_eq_true.1 h f hf
     unfold bodyO at h1
     split at h1
     . rename_i fn hfn
       split at h1
       . rename_i c hc
         exact ⟨fn, c, hfn, hc, codeO_ok S h1⟩
       . cases h1
     . cases h1
 . obtain ⟨h1, h2⟩ := hb.2 c hc
   exact ⟨codeFit_up h1, h2⟩
theorem Setup.free (S : Setup P fns outs orcs) {o : Oper} (h : orcB orcs o = false) : ¬ Runs.orc o := fun e => by rw [(S.orc o).1 e] at h; cases h
theorem Setup.fit (S : Setup P fns outs orcs) {c : Code} (h : codeB P true true fns c = true) : @CodeFit _ plainRuns P c := codeB_ok S.env h
end
end Go.Eq
namespace Go.Eq
open Go Go.Conc Go.Nest
open Go.ConcN (WgLive)
section
variable [Env] {ty : TypeId}
structure Fw (c0 : Cfg) (π0 : Ren) (w0 : World) (c : Cfg) (π : Ren) (w : World) : Prop where
 le : π0.le π
 own : ∀ a, c0.own a -> c.own a
 size : w0.heap.size <= w.heap.size
 new : ∀ b b', π b = some b' -> π0 b = some b' \/ w0.heap.size <= b'
 same : ∀ a, c0.own a -> (∀ b, π0 b ≠ some a.block) -> Same a w0 w
 os : w.os = w0.os
 output : w.output = w0.output
omit [Env] in
theorem Fw.refl (c : Cfg) (π : Ren) (w : World) : Fw c π w c π w := ⟨Ren.le_refl π, fun _ h => h, Nat.le_refl _, fun _ _ h => .inl h, fun a _ _ => .refl a w, rfl, rfl⟩
omit [Env] in
theorem Fw.rely {c0 : Cfg} {π0 : Ren} {w0 : World} {c : Cfg} {π : Ren} {w w1 : World} (A : Fw c0 π0 w0 c π w) (hr : Rely ty c w w1) : Fw c0 π0 w0 c π w1 :=
 ⟨A.le, A.own, Nat.le_trans A.size hr.size, A.new, fun a ha hb => (A.same a ha hb).trans (hr.same a (.inl (A.own a ha))), hr.os.trans A.os, hr.output.trans A.output⟩
omit [Env] in
theorem Fw.trans {c0 c1 c2 : Cfg} {π0 π1 π2 : Ren} {w0 w1 w2 : World} (S0 : ∀ a, c0.own a -> a.block < w0.heap.size) (A : Fw c0 π0 w0 c1 π1 w1) (B : Fw c1 π1 w1 c2 π2 w2) : Fw c0 π0 w0 c2 π2 w2 := by
 refine ⟨Ren.le_trans A.le B.le, fun a h => B.own a (A.own a h), Nat.le_trans A.size B.size, fun b b' hb => ?_, fun a ha hb => (A.same a ha hb).trans (B.same a (A.own a ha) fun b e => ?_), B.os.trans A.os, B.output.trans A.output⟩
 . rcases B.new _ _ hb with h | h
   . exact A.new _ _ h
   . exact .inr (Nat.le_trans A.size h)
 . rcases A.new _ _ e with h | h
   . exact hb b h
   . have := S0 a ha; omega
theorem Fw.acr {c0 c : Cfg} {π0 π : Ren} {w0 w : World} (_hs : ∀ b, ¬ Env.sealed b) (A : Acr ty c0 π0 w0 c π w) : Fw c0 π0 w0 c π w :=
 ⟨A.le, A.own, A.size, A.new, fun a ha hb => A.same a (.inl ha) fun b e => absurd e (hb b), A.os, A.output⟩
section
variable [Runs] {P : Program} {FinN : Perm -> Perm -> Goroutine -> World -> Prop} {C : Cfg -> Prop}
def OracleOkF (ty : TypeId) (P : Program) (FinN : Perm -> Perm -> Goroutine -> World -> Prop) (C : Cfg -> Prop) (Orc : Oracle) : Prop :=
 ∀ (c : Cfg) (π : Ren) (u w : World) (f : FuncId) (args args' : Array Value) (Post : Value -> World -> Prop) (b' : Frame) (rr : List Frame), Orc f args u Post -> VsRel π args args' -> WRel π u w -> Held c π -> Snug c w -> C c ->
   (∀ x x' π' u' w' c', Fw c π w c' π' w' -> VRel π' x x' -> WRel π' u' w' -> Held c' π' -> Snug c' w' -> C c' -> Post x u' -> ScS ty P FinN .work c' (Eq.live (b'.finish x') rr) w') ->
   ScS ty P FinN .work c (Eq.live (Frame.enter P f args' .normal) (b' :: rr)) w
omit [Runs] in
theorem calls_okF (hs : ∀ b, ¬ Env.sealed b) (hfit : @BodiesOk _ plainRuns P /\ FnsOk P /\ POk P) (hC : ∀ c own, C c -> C { c with own := own }) : OracleOkF ty P FinN C (CallsOrc P) := by
 intro c π u w f args args' Post b' rr hQ hx W H S hc K
 obtain ⟨h1, h2, h3⟩ := hQ
 letI : Runs := plainRuns
 refine bridge (fun _ h => h) hfit.2.2 hfit.2.1 hfit.1 h1 hx W H S h2 h3 fun v v' π' u' w' c' A hv W' H' S' hp => ?_
 exact K v v' π' u' w' c' (Fw.acr hs A) hv W' H' S' (by rw [A.cfg]; exact hC c _ hc) hp
omit [Runs] in
theorem or_okF {O O' : Oracle} (h : OracleOkF ty P FinN C O) (h' : OracleOkF ty P FinN C O') : OracleOkF ty P FinN C (OrOrc O O') := by
 intro c π u w f args args' Post b' rr hQ
 exact hQ.elim (h c π u w f args args' Post b' rr) (h' c π u w f args args' Post b' rr)
theorem LSc.scriptF {Orc : Oracle} {Stop : Frame -> World -> Prop} (hs : ∀ b, ¬ Env.sealed b) (ok : POk P) (hf : FnsOk P) (hb : BodiesOk P) (hb0 : @BodiesOk _ plainRuns P) (hO : OracleOkF ty P FinN C Orc)
   (hC : ∀ c own, C c -> C { c with own := own }) {c00 : Cfg} {π00 : Ren} {w00 : World} (S00 : ∀ a, c00.own a -> a.block < w00.heap.size)
   (hfin : ∀ (π : Ren) f f' u w c, FrRel P π f f' -> Stop f u -> WRel π u w -> Held c π -> Snug c w -> C c -> Fw c00 π00 w00 c π w -> ScS ty P FinN .work c (Eq.live f' []) w) {g : Goroutine} {u : World} (h : LSc P Orc Stop g u) :
   ∀ (π : Ren) (g' : Goroutine) (w : World) (c : Cfg), GRel P π [] [] g g' -> WRel π u w -> Held c π -> Snug c w -> C c -> Fw c00 π00 w00 c π w -> ScS ty P FinN .work c g' w := by
 induction h with
 | @done f u hg =>
   intro π g' w c hr W H S hc hF
   obtain ⟨f1, f', cs, cs', e, rfl, h1, h2⟩ := hr
   have e1 : f = f1 := congrArg Goroutine.frame e
   have e2 : cs = [] := (congrArg Goroutine.callers e).symm
   subst e1 e2
   cases h2
   exact hfin π _ _ u w c h1 hg W H S hc hF
 | @step g u g1 u1 hfree hcs hst hm _ ih =>
   intro π g' w c hg W H S hc hF
   have hg0 := hg
   obtain ⟨f, f', cs, cs', rfl, rfl, hfr, hfs⟩ := hg
   refine ScS.ord rfl rfl rfl fun w₁ hr => ?_
   have W1 := W.held H hr
   have S1 := S.rely hr
   have hS := step_rel0 (m0 := true) (m := c.main) (l := true) ok hf hb hg0 hfree hcs (W1.on (shift u w₁) w₁.tape) (tapes_shift u w₁)
   obtain ⟨es1, hst1⟩ := hst (shift u w₁)
   rw [hst1] at hS
   rcases hS with ⟨ch, e⟩ | ⟨g1', w2, π1, gs, es, hst2, hes, hrel, W2, -, E⟩
   . exact absurd e (hm _ ch)
   . have E' : Eff π π1 w₁ w2 gs := E
     have W3 : WRel π1 (u1 (shift u w₁)) w2 := W2.on (u1 (shift u w₁)).tape w2.tape
     obtain ⟨O, H2, S2⟩ := ord_of_eff (ty := ty) (es := es) H S1 E' (fun e he => by simpa using hes e he) W2
     have hF2 : Fw c00 π00 w00 (grown c w₁ w2) π1 w2 := (hF.rely hr).trans S00 (Fw.acr hs ((Acr.refl (ty := ty) c π w₁).eff S1 H S1 E'))
     exact ⟨_, _, _, _, hst2, O, ih (shift u w₁) π1 g1' w2 _ hrel W3 H2 S2 (hC _ _ hc) hF2⟩
 | @norm b a c k cs u Q hfc hwp hQt _ ih =>
   intro π g' w c0 hr W H S hc hF
   obtain ⟨f1, f', cs1, cs', e, rfl, hfr, hfs⟩ := hr
   have e1 : b.at a (.code c :: k) = f1 := congrArg Goroutine.frame e
   have e2 : cs = cs1 := congrArg Goroutine.callers e
   subst e1 e2
   have ht' : f'.todo = .code c :: k.map (rnI π) := hfr.todo
   have hro' : f'.roundOf = none := round_none hfr.round rfl
   have hdk : ∀ x, x ∈ k -> LoopOk π x := fun x hx => hfr.dom x (List.mem_cons_of_mem _ hx)
   have hf' : f' = ext (k.map (rnI π)) { f' with todo := [.code c] } := by
     cases f'
     simp only [ext] at ht' ⊢
     simp [ht']
   rw [hf']
   refine @piece_norm P (k.map (rnI π)) cs' _ plainRuns ty FinN c0 π w (fun _ h => h) ok hf hb0 S (fun fr u => ∃ a', fr = b.at a' stopK /\ Q a' u) (fun fr u t ⟨a', h1, h2⟩ => ⟨a', h1, hQt _ _ _ h2⟩) ?_ (b.at a [.code c]) _ u hro' (piece_frame hfr hfc) W H ?_
   . rintro f2 f2' π1 u1 w1 c1 ⟨-, hm2, ht2⟩ ⟨a1, e3, hq⟩ h2 A W1 H1 S1
     have ht0 : f2.todo = [] := by
       have : f2.todo ++ stopK = [] ++ stopK := ht2
       exact List.append_cancel_right this
     have e4 : f2 = b.at a1 [] := by
       cases f2
       simp only [ext] at ht0 e3 ⊢
       subst ht0
       simp only [Frame.at, stopK, List.nil_append, Frame.mk.injEq] at e3 ⊢
       simp [e3]
     subst e4
     exact ih a1 u1 hq π1 _ w1 c1 ⟨_, _, _, _, rfl, rfl, frRel_up h2 (map_mono A.le hdk).symm (fun x hx => (hdk x hx).mono A.le) fun x hx => hfr.fit x (List.mem_cons_of_mem _ hx), hfs.mono A.le⟩ W1 H1 S1 (by rw [A.cfg]; exact hC _ _ hc) (hF.trans S00 (Fw.acr hs A))
   . intro t
     obtain ⟨e5, a', w', hq, har⟩ := hwp t b stopK [door P]
     cases e5 <;> first | exact hq.elim | skip
     obtain ⟨n, hn⟩ := har
     exact ⟨t, fun _ _ _ => rfl, n, live (b.at a' stopK) [door P], w', hn, ⟨rfl, rfl, rfl⟩, a', rfl, hq⟩
 | @last b a c k cs u Q hQd hfc hwp hQt _ ih =>
   intro π g' w c0 hr W H S hc hF
   obtain ⟨f1, f', cs1, cs', e, rfl, hfr, hfs⟩ := hr
   have e1 : b.at a (.code c :: k) = f1 := congrArg Goroutine.frame e
   have e2 : cs = cs1 := congrArg Goroutine.callers e
   subst e1 e2
   have ht' : f'.todo = .code c :: k.map (rnI π) := hfr.todo
   have hro' : f'.roundOf = none := round_none hfr.round rfl
   have hdk : ∀ x, x ∈ k -> LoopOk π x := fun x hx => hfr.dom x (List.mem_cons_of_mem _ hx)
   have hf' : f' = ext (k.map (rnI π)) { f' with todo := [.code c] } := by
     cases f'
     simp only [ext] at ht' ⊢
     simp [ht']
   rw [hf']
   refine @piece_ret P (k.map (rnI π)) cs' _ plainRuns ty FinN c0 π w (fun _ h => h) ok hf hb0 S (fun fr u => ∃ a' todo, fr = { b.at a' todo with mode := .returning } /\ Q a' u) (fun fr u t ⟨a', todo, h1, h2⟩ => ⟨a', todo, h1, hQt _ _ _ h2⟩) ?_ (b.at a [.code c]) _ u hro' (piece_frame hfr hfc) W H ?_
   . rintro f2 f2' π1 u1 w1 c1 - ⟨a1, todo, e3, hq⟩ h2 A W1 H1 S1
     have e4 : f2 = { b.at a1 f2.todo with mode := .returning } := by
       cases f2
       simp only [ext] at e3 ⊢
       simp only [Frame.at, Frame.mk.injEq] at e3 ⊢
       simp [e3]
     generalize f2.todo = td at e4
     subst e4
     exact ih a1 u1 (td ++ k) hq π1 _ w1 c1 ⟨_, _, _, _, rfl, rfl, frRel_up h2 (map_mono A.le hdk).symm (fun x hx => (hdk x hx).mono A.le) fun x hx => hfr.fit x (List.mem_cons_of_mem _ hx), hfs.mono A.le⟩ W1 H1 S1 (by rw [A.cfg]; exact hC _ _ hc) (hF.trans S00 (Fw.acr hs A))
   . intro t
     obtain ⟨e5, a', w', hq, har⟩ := hwp t b stopK [door P]
     cases e5 <;> first | exact hq.elim | skip
     obtain ⟨todo, n, hn⟩ := har
     exact ⟨t, fun _ _ _ => rfl, n, live { b.at a' todo with mode := .returning } [door P], w', hn, ⟨rfl, rfl, hQd _ _ hq⟩, a', todo, rfl, hq⟩
 | @enter fr cs u f args hA hR _ ih =>
   intro π g' w c hr W H S hc hF
   obtain ⟨f1, f', cs1, cs', e, rfl, hfr, hfs⟩ := hr
   have e1 : fr = f1 := congrArg Goroutine.frame e
   have e2 : cs = cs1 := congrArg Goroutine.callers e
   subst e1 e2
   exact enter_sc hfr hA S (ih π _ w c ⟨_, _, _, _, rfl, rfl, FrRel.enter hb hR (args_rel hfr hA.args), .cons hfr hfs⟩ W H S hc hF)
 | @call fr cs u f args Post hA hQ _ ih =>
   intro π g' w c hr W H S hc hF
   obtain ⟨f1, f', cs1, cs', e, rfl, hfr, hfs⟩ := hr
   have e1 : fr = f1 := congrArg Goroutine.frame e
   have e2 : cs = cs1 := congrArg Goroutine.callers e
   subst e1 e2
   refine enter_sc hfr hA S (hO c π u w f _ _ Post f' cs' hQ (args_rel hfr hA.args) W H S hc fun x x' π' u' w' c' A hx W' H' S' hc' hp => ?_)
   exact ih x u' hp π' _ w' c' ⟨_, _, _, _, rfl, rfl, (hfr.mono A.le).finish hx, hfs.mono A.le⟩ W' H' S' hc' (hF.trans S00 A)
end
end
end Go.Eq
namespace Go.Eq
open Go Go.Conc Go.Nest
section
variable [Env]
theorem junk_only {π : Ren} {x w' : Value} (h : VRel π (junkV x) w') : w' = x := by
 cases h with
 | @func f f' _ _ _ _ h1 => cases f' <;> exact h1.elim
 | junk _ => rfl
theorem blur_ex : ∀ (v' : Value), ∃ v, (∀ π, VRel π v v') /\ ∀ π w', VRel π v w' -> w' = v'
 | .bool b => ⟨.bool b, fun _ => .bool b, fun _ w' h => by cases h; rfl⟩
 | .nilIface => ⟨.nilIface, fun _ => .nilIface, fun _ w' h => by cases h; rfl⟩
 | .agg c => by
   have ih : ∀ i (hi : i < c.size), ∃ v, (∀ π, VRel π v c[i]) /\ ∀ π w', VRel π v w' -> w' = c[i] := fun i hi =>
     have : SizeOf.sizeOf c[i] < SizeOf.sizeOf c := Array.sizeOf_getElem c i hi
     blur_ex c[i]
   refine ⟨.agg (Array.ofFn fun i : _root_.Fin c.size => (ih i i.2).choose), fun π => .agg (by simp) fun i hi => ?_, fun π w' h => ?_⟩
   . have hi' : i < c.size := by simpa using hi
     have := (ih i hi').choose_spec.1 π
     simpa [Array.getD, hi'] using this
   . cases h with
     | @agg _ c' e h =>
       have e' : c.size = c'.size := by simpa using e
       congr 1
       refine Array.ext e'.symm fun i h1 h2 => ?_
       have h3 := h i (by simpa using h2)
       have h4 : VRel π (ih i h2).choose c'[i] := by simpa [Array.getD, h1, h2] using h3
       exact (ih i h2).choose_spec.2 π _ h4
 | .tuple c => by
   have ih : ∀ i (hi : i < c.size), ∃ v, (∀ π, VRel π v c[i]) /\ ∀ π w', VRel π v w' -> w' = c[i] := fun i hi =>
     have : SizeOf.sizeOf c[i] < SizeOf.sizeOf c := Array.sizeOf_getElem c i hi
     blur_ex c[i]
   refine ⟨.tuple (Array.ofFn fun i : _root_.Fin c.size => (ih i i.2).choose), fun π => .tuple (by simp) fun i hi => ?_, fun π w' h => ?_⟩
   . have hi' : i < c.size := by simpa using hi
     have := (ih i hi').choose_spec.1 π
     simpa [Array.getD, hi'] using this
   . cases h with
     | @tuple _ c' e h =>
       have e' : c.size = c'.size := by simpa using e
       congr 1
       refine Array.ext e'.symm fun i h1 h2 => ?_
       have h3 := h i (by simpa using h2)
       have h4 : VRel π (ih i h2).choose c'[i] := by simpa [Array.getD, h1, h2] using h3
       exact (ih i h2).choose_spec.2 π _ h4
 | .int k n => ⟨junkV (.int k n), fun _ => .junk trivial, fun _ _ h => junk_only h⟩
 | .float k n => ⟨junkV (.float k n), fun _ => .junk trivial, fun _ _ h => junk_only h⟩
 | .complex k n m => ⟨junkV (.complex k n m), fun _ => .junk trivial, fun _ _ h => junk_only h⟩
 | .string s => ⟨junkV (.string s), fun _ => .junk trivial, fun _ _ h => junk_only h⟩
 | .pointer a => ⟨junkV (.pointer a), fun _ => .junk trivial, fun _ _ h => junk_only h⟩
 | .slice a n m => ⟨junkV (.slice a n m), fun _ => .junk trivial, fun _ _ h => junk_only h⟩
 | .map r => ⟨junkV (.map r), fun _ => .junk trivial, fun _ _ h => junk_only h⟩
 | .chan r => ⟨junkV (.chan r), fun _ => .junk trivial, fun _ _ h => junk_only h⟩
 | .func f x c => ⟨junkV (.func f x c), fun _ => .junk trivial, fun _ _ h => junk_only h⟩
 | .nilFunc => ⟨junkV .nilFunc, fun _ => .junk trivial, fun _ _ h => junk_only h⟩
 | .iface t v => ⟨junkV (.iface t v), fun _ => .junk trivial, fun _ _ h => junk_only h⟩
termination_by v' => SizeOf.sizeOf v'
theorem start_rel {W : World} {b : Nat} {c : Array Value} {t : TypeId} {f : Nat × Nat} (h0 : Env.low = 0) (hs : ∀ b, ¬ Env.sealed b) (hb : W.heap[b]? = some (.cells c t f)) (lo hi : Nat)
   (hv : ∀ (i : Nat) v, lo <= i -> i < hi -> c[i]? = some v -> (∀ π, VRel π v v) /\ ∀ π w', VRel π v w' -> w' = v) :
   ∃ d : Array Value, d.size = c.size /\ (∀ i : Nat, lo <= i -> i < hi -> d[i]? = c[i]?) /\ WRel (fun x => if x = b then some b else none) { W with heap := W.heap.setIfInBounds b (.cells d t f) } W /\ ∀ π c', VsRel π d c' -> c' = c := by
 classical
 have hd : ∀ i (hi' : i < c.size), (∀ π, VRel π (if lo <= i /\ i < hi then c[i] else (blur_ex c[i]).choose) c[i]) /\ ∀ π w', VRel π (if lo <= i /\ i < hi then c[i] else (blur_ex c[i]).choose) w' -> w' = c[i] := by
   intro i hi'
   split
   . rename_i h; exact hv i _ h.1 h.2 (Array.getElem?_eq_getElem hi')
   . exact (blur_ex c[i]).choose_spec
 refine ⟨Array.ofFn fun i : _root_.Fin c.size => if lo <= i.1 /\ i.1 < hi then c[i.1] else (blur_ex c[i.1]).choose, by simp, fun i h1 h2 => ?_, ⟨fun x y z h k => ?_, fun x y h => ?_, rfl, fun x h => absurd h (hs x), fun x h => absurd (h0 ▸ h) (Nat.not_lt_zero x), fun x _ _ _ h => absurd h (hs x)⟩, fun π c' h => ?_⟩
 . by_cases hi' : i < c.size
   . simp [hi', h1, h2]
   . rw [Array.getElem?_eq_none (by simpa using hi'), Array.getElem?_eq_none (by omega)]
 . split at h <;> first | (cases h; done) | skip
   split at k <;> first | (cases k; done) | skip
   simp_all
 . split at h
   . rename_i e
     cases h
     subst e
     have hlt : x < W.heap.size := (Array.getElem?_eq_some_iff.1 hb).1
     refine ⟨.cells _ t f, _, Array.getElem?_setIfInBounds_self_of_lt hlt, hb, ⟨⟨by simp, fun i hi' => ?_⟩, rfl⟩, .inl rfl⟩
     have hi2 : i < c.size := by simpa using hi'
     have := (hd i hi2).1 fun z => if z = x then some x else none
     simpa [Array.getD, hi2] using this
   . cases h
 . have e' : c.size = c'.size := by simpa using h.1
   refine Array.ext e'.symm fun i h1 h2 => ?_
   have h3 := h.2 i (by simpa using h2)
   have h4 : VRel π (if lo <= i /\ i < hi then c[i] else (blur_ex c[i]).choose) c'[i] := by simpa [Array.getD, h1, h2] using h3
   exact (hd i h2).2 π _ h4
theorem end_same {π : Ren} {u' w : World} {b : Nat} {c d : Array Value} {t : TypeId} {f : Nat × Nat} (hs : ∀ b, ¬ Env.sealed b) (W' : WRel π u' w) (he : π b = some b) (hu : u'.heap[b]? = some (.cells d t f)) (hd : ∀ π c', VsRel π d c' -> c' = c) : w.heap[b]? = some (.cells c t f) := by
 obtain ⟨o, o', e1, e2, ho, hc⟩ := W'.obj _ _ he
 rw [hu] at e1
 cases e1
 cases o' <;> first | exact ho.elim | skip
 obtain ⟨h1, rfl⟩ := ho
 rcases hc with hc | ⟨h, -⟩
 . have := hd _ _ h1
   subst this
   simp only [ice] at hc
   subst hc
   exact e2
 . exact absurd h (hs _)
end
theorem same_block {w w' : World} {b : Nat} (h : ∀ a : Addr, a.block = b -> Same a w w') : w'.heap[b]? = w.heap[b]? := by
 have h0 := h ⟨b, 0, none⟩ rfl
 by_cases hc : ∃ c t f, w.heap[b]? = some (.cells c t f)
 . obtain ⟨c, t, f, hh⟩ := hc
   obtain ⟨f', e⟩ := row_same hh h
   have hp := h0.pair
   simp only [frost, hh, e] at hp
   rw [e, hh, hp]
 . refine h0.obj ?_
   simp only [World.shape?]
   split
   . exact absurd ⟨_, _, _, by assumption⟩ hc
   . rfl
end Go.Eq
namespace Go.Nest
open Go Go.Conc Go.Eq Go.RowKit
theorem returns_of {P : Program} {f' : Frame} {fn : Func} {v : Value} (hm : f'.mode = .returning) (hd : f'.defers = []) (hk : f'.kind = .normal) (hf : P.funcs[f'.fn]? = some fn) (hr : results fn f'.tmps = .pure v) (hi : P.inits.idxOf? f'.fn = none) : Returns P v (Eq.live f' []) := by
 refine ⟨rfl, fun w => ?_⟩
 unfold Eq.live stepG unwind
 simp only [hm, hd, hf, hr]
 simp [Sem.runT, GStep.after, seen, doReturn, hk, hi]
@[reducible] def allCfg (W : World) : Cfg := mainCfg (fun a => a.block < W.heap.size) (fun _ => False)
theorem snug_all (W : World) : Snug (allCfg W) W := ⟨fun a h => h.elim id False.elim, fun z h => absurd h (by simp [mainCfg]), fun z v h => absurd h (by simp [mainCfg])⟩
theorem fw_below [Env] {W w : World} {c : Cfg} {π0 π : Ren} (h : Fw (allCfg W) π0 W c π w) (hk : ∀ k x, π0 x = some k -> k < W.heap.size -> w.heap[k]? = W.heap[k]?) : Below W.heap.size W.blind w.blind := by
 refine ⟨h.os, rfl, h.output, h.size, fun k hlt => ?_⟩
 by_cases hx : ∃ x, π0 x = some k
 . obtain ⟨x, hx⟩ := hx
   exact hk k x hx hlt
 . exact same_block (w := W) (w' := w) fun a ha => h.same a (show a.block < W.heap.size by rw [ha]; exact hlt) fun b e => hx ⟨b, by rw [e, ha]⟩
end Go.Nest
