/- ONE GOROUTINE's WHOLE WAY, ALONE, BUT FOR CALLS THAT. -/
import Derived.Test.YtddcbeeldjjmeaaGreatPart8
import Derived.Test.YtddcbeeldjjmeaaGreatPart7
namespace Go.Eq
open Go Go.Conc Go.Nest
open Go.ConcN (WgLive)
section
variable [Env] [Runs] {P : Program} {π : Ren}
structure AtCall (P : Program) (fr : Frame) (f : FuncId) (args : Array Operand) : Prop where
 run : fr.mode = .run
 kind : fr.kind = .normal
 round : fr.roundOf = none
 ops : ∃ ops i rest k o ats fn cd, fr.todo = .inRegion ops (i :: rest) :: k /\ ops[i]? = some o /\ Region.wanted o (yielded ops fr.tmps) = true /\ o.op = .call { callee := .value (.func f), args, argTypes := ats } /\
   P.funcs[f]? = some fn /\ (fn.name == "runtime.NumGoroutine") = false /\ fn.body = some cd
 args : ∀ x, x ∈ args -> OpdOk x
def onlyN (Q : Act -> World -> Prop) : Exit -> Act -> World -> Prop
 | .normal, a, w => Q a w
 | _, _, _ => False
def onlyR (Q : Act -> World -> Prop) : Exit -> Act -> World -> Prop
 | .ret, a, w => Q a w
 | _, _, _ => False
abbrev Oracle := FuncId -> Array Value -> World -> (Value -> World -> Prop) -> Prop
inductive LSc (P : Program) (Orc : Oracle) (Stop : Frame -> World -> Prop) : Goroutine -> World -> Prop
 | done {f : Frame} {u : World} : Stop f u -> LSc P Orc Stop (live f []) u
 | step {g : Goroutine} {u : World} (g1 : (Nat -> Question -> Nat) -> Goroutine) (u1 : (Nat -> Question -> Nat) -> World) : Free g -> (g.frame.mode = .returning \/ g.frame.roundOf ≠ none -> g.callers ≠ []) -> (∀ t, ∃ es, stepG P true g (World.on u t) = .go (g1 t) (World.on (u1 t) t) es) ->
     (∀ t ch, (g1 t).frame.mode ≠ .panicking ch) -> (∀ t, LSc P Orc Stop (g1 t) (u1 t)) -> LSc P Orc Stop g u
 | norm {b : Frame} {a : Act} {c : Code} {k : List Item} {cs : List Frame} {u : World} (Q : Act -> World -> Prop) : @CodeFit _ plainRuns P c -> (∀ t, c.wp P (onlyN Q) a (World.on u t)) -> (∀ a' u' t, Q a' u' -> Q a' (World.on u' t)) ->
     (∀ a' u', Q a' u' -> LSc P Orc Stop (live (b.at a' k) cs) u') -> LSc P Orc Stop (live (b.at a (.code c :: k)) cs) u
 | last {b : Frame} {a : Act} {c : Code} {k : List Item} {cs : List Frame} {u : World} (Q : Act -> World -> Prop) : (∀ a' u', Q a' u' -> a'.defers = []) -> @CodeFit _ plainRuns P c -> (∀ t, c.wp P (onlyR Q) a (World.on u t)) -> (∀ a' u' t, Q a' u' -> Q a' (World.on u' t)) ->
     (∀ a' u' todo, Q a' u' -> LSc P Orc Stop (live { b.at a' todo with mode := .returning } cs) u') -> LSc P Orc Stop (live (b.at a (.code c :: k)) cs) u
 | enter {fr : Frame} {cs : List Frame} {u : World} {f : FuncId} {args : Array Operand} : AtCall P fr f args -> Runs.runs f -> LSc P Orc Stop (live (Frame.enter P f (args.map fr.eval) .normal) (fr :: cs)) u -> LSc P Orc Stop (live fr cs) u
 | call {fr : Frame} {cs : List Frame} {u : World} {f : FuncId} {args : Array Operand} {Post : Value -> World -> Prop} : AtCall P fr f args -> Orc f (args.map fr.eval) u Post -> (∀ x u', Post x u' -> LSc P Orc Stop (live (fr.finish x) cs) u') -> LSc P Orc Stop (live fr cs) u
theorem FsRel.trans {bs bs' fs fs' : List Frame} (x : FsRel P π bs bs' fs fs') (h : FsRel P π [] [] bs bs') : FsRel P π [] [] fs fs' := by
 induction x with
 | base => exact h
 | cons a _ ih => exact .cons a ih
theorem step_rel0 (ok : POk P) (hf : FnsOk P) (hb : BodiesOk P) {m0 m l : Bool} {g g' : Goroutine} {u w : World} (h : GRel P π [] [] g g') (hno : Free g) (hcs : g.frame.mode = .returning \/ g.frame.roundOf ≠ none -> g.callers ≠ []) (W : WRel π u w) (T : Tapes u w) :
   match stepG P m0 g u l with
   | .go g1 u1 _ => (∃ ch, g1.frame.mode = .panicking ch) \/ ∃ g1' w1 π1 gs es, stepG P m g' w = .go g1' w1 es /\ (∀ e, e ∈ es -> e ∈ gs) /\ GRel P π1 [] [] g1 g1' /\ WRel π1 u1 w1 /\ Tapes u1 w1 /\ Eff π π1 w w1 gs
   | .ended _ _ _ => True
   | _ => False := by
 obtain ⟨f, f', cs, cs', rfl, rfl, h1, h2⟩ := h
 rcases h1.live with hr | ⟨hr, -⟩
 . have hS := exec_rel (m0 := m0) (m := m) (l := l) ok hf hb h1 hno hr h2 (fun h => hcs (.inr h)) (.inr rfl) W T
   cases hst : stepG P m0 (live f cs) u l <;> rw [hst] at hS <;> first | exact hS | skip
   rename_i g1 u1 es1
   rcases hS with ⟨f1, ds, ch, e1, e2, -⟩ | ⟨g1', w1, π1, gs, es, e1, e2, hrel, e3, e4, e5⟩
   . exact .inl ⟨ch, by rw [e1]; exact e2⟩
   . rcases hrel with hrel | ⟨b, l0, b', l', v, v', eb, -⟩
     . exact .inr ⟨g1', w1, π1, gs, es, e1, e2, hrel, e3, e4, e5⟩
     . cases eb
 . have hne : cs ≠ [] := hcs (.inl hr)
   cases h2 with
   | base => exact absurd rfl hne
   | @cons c1 c1' k k' hc hk =>
     have hS := leave_rel (m0 := m0) (m := m) (l := l) (lr := k) (rr := k') hb h1 hr (.base : FsRel P π (c1 :: k) (c1' :: k') (c1 :: k) (c1' :: k')) W T
     cases hst : stepG P m0 (live f (c1 :: k)) u l <;> rw [hst] at hS <;> first | exact hS | skip
     rename_i g1 u1 es1
     rcases hS with ⟨f1, ds, ch, e1, e2, -⟩ | ⟨g1', w1, π1, gs, es, e1, e2, hrel, e3, e4, e5⟩
     . exact .inl ⟨ch, by rw [e1]; exact e2⟩
     . refine .inr ⟨g1', w1, π1, gs, es, e1, e2, ?_, e3, e4, e5⟩
       have hc1 := hc.mono e5.le
       have hk1 := hk.mono e5.le
       rcases hrel with ⟨f2, f2', cs2, cs2', rfl, rfl, h3, h4⟩ | ⟨b, l0, b', l', v, v', eb, eb', hv, rfl, rfl⟩
       . exact ⟨f2, f2', cs2, cs2', rfl, rfl, h3, h4.trans (.cons hc1 hk1)⟩
       . cases eb
         cases eb'
         exact ⟨_, _, _, _, rfl, rfl, hc1.finish hv, hk1⟩
omit [Env] [Runs] in
theorem frame_at {fr : Frame} {x : List Item} (h : fr.mode = .run) (hr : fr.roundOf = none) (e : fr.todo = x) : fr = fr.at ⟨fr.tmps, fr.defers⟩ x := by
 subst e
 cases fr
 simp only at h hr
 subst h hr
 rfl
theorem args_rel {fr fr' : Frame} (h : FrRel P π fr fr') {args : Array Operand} (ha : ∀ x, x ∈ args -> OpdOk x) : VsRel π (args.map fr.eval) (args.map fr'.eval) := by
 refine .of_get? (by simp) fun i v v' e e' => ?_
 rw [Array.getElem?_map] at e e'
 cases hx : args[i]? with
 | none => rw [hx] at e; cases e
 | some x =>
   rw [hx] at e e'
   simp only [Option.map_some, Option.some.injEq] at e e'
   subst e e'
   exact h.eval (ha x (Array.mem_of_getElem? hx))
theorem enter_sc {ty : TypeId} {FinN : Perm -> Perm -> Goroutine -> World -> Prop} {c : Cfg} {w : World} {fr fr' : Frame} {cs' : List Frame} {f : FuncId} {args : Array Operand} (h : FrRel P π fr fr') (hA : AtCall P fr f args) (S : Snug c w)
   (K : ScS ty P FinN .work c (Eq.live (Frame.enter P f (args.map fr'.eval) .normal) (fr' :: cs')) w) : ScS ty P FinN .work c (Eq.live fr' cs') w := by
 obtain ⟨ops, i, rest, k, o, ats, fn, cd, h1, h2, h3, h4, h5, h6, h7⟩ := hA.ops
 have ht : fr'.todo = .inRegion ops (i :: rest) :: k.map (rnI π) := by rw [h.todo, h1]; rfl
 have hro' : fr'.roundOf = none := round_none h.round hA.round
 have e := frame_at (h.mode ▸ hA.run) hro' ht
 have ee : (⟨fr'.tmps, fr'.defers⟩ : Act).eval = fr'.eval := by
   funext x
   rw [<- Frame.eval_at fr' ⟨fr'.tmps, fr'.defers⟩ (.inRegion ops (i :: rest) :: k.map (rnI π)), <- e]
 have hE := ScS.enter (ty := ty) (P := P) (FinN := FinN) (s := .work) (b := fr') (a := ⟨fr'.tmps, fr'.defers⟩) (k := k.map (rnI π)) (cs := cs') (ops := ops) (i := i) (rest := rest) (o := o) (f := f) (fn := fn) (cd := cd) (args := args) (ats := ats) rfl S h2 (by rw [<- yielded_rel h.tmps]; exact h3) (by rw [h.kind']; decide) h4 h5 h6 h7
 rw [<- e, ee] at hE
 exact hE K
omit [Runs] in
theorem opsFit_up [Runs] {ops : Array Oper} (h : @OpsFit _ plainRuns P ops) : OpsFit P ops := fun i o e => .inr ((h i o e).resolve_left fun h => h)
omit [Runs] in
theorem codeFit_up [Runs] {c : Code} (h : @CodeFit _ plainRuns P c) : CodeFit P c := by
 induction c with
 | region _ _ _ => exact opsFit_up h
 | seq _ _ i1 i2 => exact ⟨i1 h.1, i2 h.2⟩
 | cond _ _ _ i1 i2 => exact ⟨h.1, i1 h.2.1, i2 h.2.2⟩
 | block _ _ i => exact i h
 | loop _ i => exact i h
 | scope _ i => exact i h
 | _ => exact h
omit [Runs] in
theorem itemFit_up [Runs] : ∀ {x : Item}, @ItemFit _ plainRuns P x -> ItemFit P x := by
 intro x h
 cases x
 case code c => exact codeFit_up h
 case inLoop c => exact codeFit_up h
 case inScope c => exact codeFit_up h
 case inRegion ops is => exact opsFit_up h
 all_goals exact h
theorem piece_frame {b : Frame} {a : Act} {c : Code} {k : List Item} {f' : Frame} (h : FrRel P π (b.at a (.code c :: k)) f') (hc : @CodeFit _ plainRuns P c) : @FrRel _ plainRuns P π (ext stopK (b.at a [.code c])) (ext stopK { f' with todo := [.code c] }) := by
 obtain ⟨h1, h2, h3, -, -, -, h6, h8, h9, h10, h11, h12, h13⟩ := h
 refine @FrRel.mk _ plainRuns P π _ _ h1 h2 h3 rfl (fun x hx => ?_) (fun x hx => ?_) h6 h8 h9 h10 h11 h12 h13
 . have hx : x ∈ [Item.code c, Item.code (.refuse "")] := hx
   simp only [List.mem_cons, List.not_mem_nil, or_false] at hx
   rcases hx with rfl | rfl <;> exact trivial
 . have hx : x ∈ [Item.code c, Item.code (.refuse "")] := hx
   simp only [List.mem_cons, List.not_mem_nil, or_false] at hx
   rcases hx with rfl | rfl
   . exact hc
   . exact trivial
omit [Runs] in
theorem frRel_up [Runs] {f f' : Frame} {k k' : List Item} (h : @FrRel _ plainRuns P π f f') (hk' : k' = k.map (rnI π)) (hd : ∀ x, x ∈ k -> LoopOk π x) (hk : ∀ x, x ∈ k -> ItemFit P x) : FrRel P π (ext k f) (ext k' f') := by
 obtain ⟨h1, h2, h3, h4, h4', h5, h6, h8, h9, h10, h11, h12, h13⟩ := h
 subst hk'
 refine ⟨h1, h2, h3, ?_, fun x hx => ?_, fun x hx => ?_, h6, h8, h9, h10, h11, h12, h13⟩
 . show f'.todo ++ k.map (rnI π) = (f.todo ++ k).map (rnI π)
   rw [h4, List.map_append]
 . rcases List.mem_append.1 hx with hx | hx
   . exact h4' x hx
   . exact hd x hx
 . rcases List.mem_append.1 hx with hx | hx
   . exact itemFit_up (h5 x hx)
   . exact hk x hx
end
section
variable [Env] {P : Program}
def CallsOrc (P : Program) : Oracle := fun f args u Post =>
 Env.fnOk f /\ (∀ t, Calls P f args (World.on u t) fun e w => ∃ v, e = .returned v /\ Post v w) /\ ∀ v u t, Post v u -> Post v (World.on u t)
def OrOrc (O O' : Oracle) : Oracle := fun f args u Post => O f args u Post \/ O' f args u Post
variable {ty : TypeId} {FinN : Perm -> Perm -> Goroutine -> World -> Prop} {C : Cfg -> Prop}
end
section
variable [Env] [Runs] {P : Program} {Orc : Oracle} {Stop : Frame -> World -> Prop} {u : World} {b : Frame} {a : Act} {k : List Item} {cs : List Frame} {ops : Array Oper} {i : Nat} {rest : List Nat} {o : Oper} {v : Value}
theorem LSc.ctl {g g' : Goroutine} (hf : Free g) (hr : g.frame.mode = .returning \/ g.frame.roundOf ≠ none -> g.callers ≠ []) (h : ∀ w, stepG P true g w = .go g' w #[]) (hm : ∀ ch, g'.frame.mode ≠ .panicking ch) (K : LSc P Orc Stop g' u) : LSc P Orc Stop g u :=
 .step (fun _ => g') (fun _ => u) hf hr (fun _ => ⟨_, h _⟩) (fun _ => hm) fun _ => K
omit [Env] [Runs] in
theorem mode_at (x : Frame) (a : Act) (t : List Item) (cs : List Frame) : ∀ ch, (G (x.at a t) cs).frame.mode ≠ .panicking ch := fun ch e => by cases e
theorem LSc.val {u' : World} (hf : ¬ Runs.orc o) (ho : ops[i]? = some o) (hw : Region.wanted o (yielded ops a.tmps) = true) (hk : b.kind ≠ .early)
   (h : ∀ t, (execOp a.eval o).run P (World.on u t) = .ok (.value v) (World.on u' t)) (K : LSc P Orc Stop (G (b.at (a.put o.dst v) (.inRegion ops rest :: k)) cs) u') : LSc P Orc Stop (G (b.at a (.inRegion ops (i :: rest) :: k)) cs) u := by
 refine .step (fun _ => _) (fun _ => u') (fun ops' i' is' k' o' e e' => ?_) (fun e => e.elim (fun e => by cases e) fun e => absurd rfl e) (fun t => ⟨_, stepG_value ho hw hk (h t)⟩) (fun _ => mode_at _ _ _ _) fun _ => K
 simp only [G, Frame.at, List.cons.injEq, Item.inRegion.injEq] at e
 obtain ⟨⟨rfl, rfl, -⟩, -⟩ := e
 rw [ho] at e'
 cases e'
 exact hf
end
end Go.Eq
namespace Go.Nest
open Go Go.Conc Go.Eq
open Go.ConcN (WgLive)
section
variable {ty : TypeId} {P : Program} {FinN : Perm -> Perm -> Goroutine -> World -> Prop} {s : Stg} {c c' : Cfg} {w w' : World}
theorem ScS.turn {g g' : Goroutine} {own' rd' : Perm} (hs : s.early = true) (hr : g.status = .running) (ho : g.offers = none) (hm : c.main = true) (hcur : c.cur = none) (S : Snug c w) (h : ∀ w₁, stepG P c.main g w₁ = .go g' w₁ #[])
   (h1 : ∀ a, own' a -> c.own a \/ c.rd a) (h2 : ∀ a, rd' a -> c.own a \/ c.rd a) (K : ScS ty P FinN s { c with own := own', rd := rd' } g' w) : ScS ty P FinN s c g w := by
 refine ScS.ord hs hr ho fun w₁ hrel => ⟨g', w₁, #[], { c with own := own', rd := rd' }, h w₁, ?_, K.rely ?_⟩
 . have S1 := S.rely hrel
   refine ⟨Nat.le_refl _, fun _ _ _ => rfl, fun a _ _ => .refl a w₁, fun _ _ h => h, rfl, rfl, rfl, fun e he => by simp at he, fun j e x hj => by simp at hj, rfl, rfl, fun a ha => ⟨(h1 a ha).elim .inl fun e => .inr (.inr ⟨hm, hcur, e⟩), S1.low a (h1 a ha)⟩, fun a ha => ⟨(h2 a ha).elim (fun e => .inr (.inl e)) .inl, S1.low a (h2 a ha)⟩, rfl, rfl, rfl, rfl, .inl rfl⟩
 . exact ⟨hrel.size, fun a ha => hrel.same a (ha.elim (h1 a) (h2 a)), hrel.shape, hrel.cur, hrel.up, hrel.os, hrel.tape, hrel.output⟩
structure Over (ty : TypeId) (c : Cfg) (w : World) (c' : Cfg) (w' : World) : Prop where
 cfg : c' = { c with own := c'.own, rd := c'.rd }
 own : ∀ a, c.own a \/ c.rd a -> c'.own a
 own' : ∀ a, c'.own a -> c.own a \/ c.rd a \/ w.heap.size <= a.block
 size : w.heap.size <= w'.heap.size
 same : ∀ a, c.own a \/ c.rd a -> Same a w w'
 shape : ∀ b s, w.shape? b = some s -> w'.shape? b = some s
 up : ∀ z v, c.up = some (z, v) -> WgLive ty z w -> WgLive ty z w'
 os : w'.os = w.os
 tape : w'.tape = w.tape
 output : w'.output = w.output
 snug : Snug c' w'
end
section
variable [Env] {nt : TypeId} {dg : Int -> ByteArray -> ByteArray -> Int -> Int -> Int} {π : Ren} {u w : World}
def OptA (π : Ren) (l l' : Option Addr) : Prop := (l = none /\ l' = none) \/ ∃ x y, l = some x /\ l' = some y /\ ARel π x y
theorem optA_ptr {x : Nat} {l' : Option Addr} (h : OptA π (ptr x) l') : ∃ y, l' = ptr y /\ π x = some y := by
 rcases h with ⟨h, -⟩ | ⟨a, b, e, rfl, h⟩
 . cases h
 . cases e
   obtain ⟨b1, o1, s1⟩ := b
   obtain ⟨h1, h2, h3, -⟩ := h
   simp only at h1 h2 h3
   subst h2 h3
   exact ⟨b1, rfl, h1⟩
theorem optA_ptr' {y : Nat} {l : Option Addr} (h : OptA π l (ptr y)) : ∃ x, l = ptr x /\ π x = some y := by
 rcases h with ⟨-, h⟩ | ⟨a, b, rfl, e, h⟩
 . cases h
 . cases e
   obtain ⟨b1, o1, s1⟩ := a
   obtain ⟨h1, h2, h3, -⟩ := h
   simp only at h1 h2 h3
   subst h2 h3
   exact ⟨b1, rfl, h1⟩
theorem optA_none {l' : Option Addr} (h : OptA π none l') : l' = none := by
 rcases h with ⟨-, h⟩ | ⟨a, b, e, -⟩
 . exact h
 . cases e
theorem optA_none' {l : Option Addr} (h : OptA π l none) : l = none := by
 rcases h with ⟨h, -⟩ | ⟨a, b, -, e, -⟩
 . exact h
 . cases e
theorem cells_right {kind : Int} {p v : ByteArray} {l r : Option Addr} {d : Int} {s : Bool} {c : Array Value} (h : VsRel π (nodeCells kind p v l r d s) c) : ∃ l' r', c = nodeCells kind p v l' r' d s /\ OptA π l l' /\ OptA π r r' := by
 have g : ∀ i x, (nodeCells kind p v l r d s)[i]? = some x -> ∃ y, c[i]? = some y /\ VRel π x y := fun i x e => by
   rcases h.get? i with ⟨e1, -⟩ | ⟨x1, y, e1, e2, e3⟩
   . rw [e] at e1; cases e1
   . rw [e] at e1; cases e1; exact ⟨y, e2, e3⟩
 have hp : ∀ {o : Option Addr} {y : Value}, VRel π (.pointer o) y -> ∃ o', y = .pointer o' /\ OptA π o o' := fun {o y} hv => by
   cases hv with
   | pnil => exact ⟨none, rfl, .inl ⟨rfl, rfl⟩⟩
   | pointer ha => exact ⟨_, rfl, .inr ⟨_, _, rfl, rfl, ha⟩⟩
 obtain ⟨y0, e0, h0⟩ := g 0 _ rfl
 obtain ⟨y1, e1, h1⟩ := g 1 _ rfl
 obtain ⟨y2, e2, h2⟩ := g 2 _ rfl
 obtain ⟨y3, e3, h3⟩ := g 3 _ rfl
 obtain ⟨y4, e4, h4⟩ := g 4 _ rfl
 obtain ⟨y5, e5, h5⟩ := g 5 _ rfl
 obtain ⟨y6, e6, h6⟩ := g 6 _ rfl
 obtain ⟨l', rfl, hl⟩ := hp h3
 obtain ⟨r', rfl, hr⟩ := hp h4
 cases h0; cases h1; cases h2; cases h5; cases h6
 refine ⟨l', r', Array.ext_getElem? fun i => ?_, hl, hr⟩
 rcases i with _ | _ | _ | _ | _ | _ | _ | i
 . exact e0
 . exact e1
 . exact e2
 . exact e3
 . exact e4
 . exact e5
 . exact e6
 . have hs : c.size = 7 := h.1.symm
   rw [Array.getElem?_eq_none (by omega)]
   simp [nodeCells]
def PlainB (u : World) (b : Nat) : Prop := ∀ (i : Nat) v c t f, u.heap[b]? = some (.cells c t f) -> c[i]? = some v -> ¬ IsJunk v
theorem cells_left {kind : Int} {p v : ByteArray} {l r : Option Addr} {d : Int} {s : Bool} {c : Array Value} (hj : ∀ (i : Nat) v, c[i]? = some v -> ¬ IsJunk v) (h : VsRel π c (nodeCells kind p v l r d s)) : ∃ l' r', c = nodeCells kind p v l' r' d s /\ OptA π l' l /\ OptA π r' r := by
 have g : ∀ i x, (nodeCells kind p v l r d s)[i]? = some x -> ∃ y, c[i]? = some y /\ VRel π y x := fun i x e => by
   rcases h.get? i with ⟨-, e1⟩ | ⟨x1, y, e1, e2, e3⟩
   . rw [e] at e1; cases e1
   . rw [e] at e2; cases e2; exact ⟨x1, e1, e3⟩
 have hp : ∀ {o : Option Addr} {y : Value}, ¬ IsJunk y -> VRel π y (.pointer o) -> ∃ o', y = .pointer o' /\ OptA π o' o := fun {o y} hn hv => by
   cases hv with
   | junk _ => exact absurd ⟨_, rfl⟩ hn
   | pnil => exact ⟨none, rfl, .inl ⟨rfl, rfl⟩⟩
   | pointer ha => exact ⟨_, rfl, .inr ⟨_, _, rfl, rfl, ha⟩⟩
 obtain ⟨y0, e0, h0⟩ := g 0 _ rfl
 obtain ⟨y1, e1, h1⟩ := g 1 _ rfl
 obtain ⟨y2, e2, h2⟩ := g 2 _ rfl
 obtain ⟨y3, e3, h3⟩ := g 3 _ rfl
 obtain ⟨y4, e4, h4⟩ := g 4 _ rfl
 obtain ⟨y5, e5, h5⟩ := g 5 _ rfl
 obtain ⟨y6, e6, h6⟩ := g 6 _ rfl
 obtain ⟨l', rfl, hl⟩ := hp (hj 3 _ e3) h3
 obtain ⟨r', rfl, hr⟩ := hp (hj 4 _ e4) h4
 have n0 := hj 0 _ e0
 have n1 := hj 1 _ e1
 have n2 := hj 2 _ e2
 have n5 := hj 5 _ e5
 have n6 := hj 6 _ e6
 cases h0 <;> first | exact absurd ⟨_, rfl⟩ n0 | skip
 cases h1 <;> first | exact absurd ⟨_, rfl⟩ n1 | skip
 cases h2 <;> first | exact absurd ⟨_, rfl⟩ n2 | skip
 cases h5 <;> first | exact absurd ⟨_, rfl⟩ n5 | skip
 cases h6 <;> first | exact absurd ⟨_, rfl⟩ n6 | skip
 refine ⟨l', r', Array.ext_getElem? fun i => ?_, hl, hr⟩
 rcases i with _ | _ | _ | _ | _ | _ | _ | i
 . exact e0
 . exact e1
 . exact e2
 . exact e3
 . exact e4
 . exact e5
 . exact e6
 . have hs : c.size = 7 := h.1
   rw [Array.getElem?_eq_none (by omega)]
   simp [nodeCells]
theorem node_right (W : WRel π u w) {b b' : Nat} (e : π b = some b') {kind : Int} {p v : ByteArray} {l r : Option Addr} {d : Int} {s : Bool} (h : NodeAt nt u b kind p v l r d s) : ∃ l' r', NodeAt nt w b' kind p v l' r' d s /\ OptA π l l' /\ OptA π r r' := by
 obtain ⟨o, o', h1, h2, h3, -⟩ := W.obj b b' e
 obtain ⟨fr, h⟩ := h
 rw [h] at h1
 cases h1
 cases o' <;> simp only [ORel] at h3 <;> first | exact h3.elim | skip
 obtain ⟨h3, rfl⟩ := h3
 obtain ⟨l', r', rfl, hl, hr⟩ := cells_right h3
 exact ⟨l', r', ⟨_, h2⟩, hl, hr⟩
theorem node_left (W : WRel π u w) {b b' : Nat} (hj : PlainB u b) (e : π b = some b') {kind : Int} {p v : ByteArray} {l r : Option Addr} {d : Int} {s : Bool} (h : NodeAt nt w b' kind p v l r d s) : ∃ l' r', NodeAt nt u b kind p v l' r' d s /\ OptA π l' l /\ OptA π r' r := by
 obtain ⟨o, o', h1, h2, h3, -⟩ := W.obj b b' e
 obtain ⟨fr, h⟩ := h
 rw [h] at h2
 cases h2
 cases o <;> simp only [ORel] at h3 <;> first | exact h3.elim | skip
 obtain ⟨h3, rfl⟩ := h3
 obtain ⟨l', r', rfl, hl, hr⟩ := cells_left (fun i v e => hj i v _ _ _ h1 e) h3
 exact ⟨l', r', ⟨_, h1⟩, hl, hr⟩
omit [Env] in
theorem node_plain {b : Nat} {kind : Int} {p v : ByteArray} {l r : Option Addr} {d : Int} {s : Bool} (h : NodeAt nt u b kind p v l r d s) : PlainB u b := by
 obtain ⟨fr, e⟩ := h
 intro i x c t f e1 e2
 rw [e] at e1
 cases e1
 rcases i with _ | _ | _ | _ | _ | _ | _ | i
 . cases e2; rintro ⟨_, e⟩; cases e
 . cases e2; rintro ⟨_, e⟩; cases e
 . cases e2; rintro ⟨_, e⟩; cases e
 . cases e2; rintro ⟨_, e⟩; cases e
 . cases e2; rintro ⟨_, e⟩; cases e
 . cases e2; rintro ⟨_, e⟩; cases e
 . cases e2; rintro ⟨_, e⟩; cases e
 . rw [Array.getElem?_eq_none (by simp [nodeCells])] at e2; cases e2
omit [Env] in
theorem sd_plain {R : Nat -> Prop} : ∀ {t : Tr} {b : Nat}, Sd nt dg R u t b -> Sd nt dg (PlainB u) u t b
 | .branch _ _ _, _, ⟨_, bl, br, h2, h3, h4⟩ => ⟨node_plain h2, bl, br, h2, sd_plain h3, sd_plain h4⟩
 | .empty, _, ⟨_, h2⟩ => ⟨node_plain h2, h2⟩
 | .leaf _ _, _, ⟨_, h2⟩ => ⟨node_plain h2, h2⟩
omit [Env] in
theorem nd_plain {R : Nat -> Prop} : ∀ {t : Tr} {b : Nat}, Nd nt dg R u t b -> Nd nt dg (PlainB u) u t b
 | .branch _ _ _, _, ⟨_, bl, br, d, s, h2, h3, h4, h5⟩ => ⟨node_plain h2, bl, br, d, s, h2, nd_plain h3, nd_plain h4, fun x => ⟨(h5 x).1, sd_plain (h5 x).2.1, sd_plain (h5 x).2.2⟩⟩
 | .empty, _, ⟨_, d, s, h2, h3⟩ => ⟨node_plain h2, d, s, h2, h3⟩
 | .leaf _ _, _, ⟨_, d, s, h2, h3⟩ => ⟨node_plain h2, d, s, h2, h3⟩
theorem sd_right {R : Nat -> Prop} (W : WRel π u w) : ∀ {t : Tr} {b b' : Nat}, π b = some b' -> Sd nt dg R u t b -> Sd nt dg (fun y => ∃ x, π x = some y /\ R x) w t b'
 | .branch _ _ _, b, b', e, ⟨hb, bl, br, h2, h3, h4⟩ => by
   obtain ⟨l', r', h5, hl, hr⟩ := node_right W e h2
   obtain ⟨yl, rfl, el⟩ := optA_ptr hl
   obtain ⟨yr, rfl, er⟩ := optA_ptr hr
   exact ⟨⟨b, e, hb⟩, yl, yr, h5, sd_right W el h3, sd_right W er h4⟩
 | .empty, b, b', e, ⟨hb, h2⟩ => by
   obtain ⟨l', r', h5, hl, hr⟩ := node_right W e h2
   rw [optA_none hl, optA_none hr] at h5
   exact ⟨⟨b, e, hb⟩, h5⟩
 | .leaf _ _, b, b', e, ⟨hb, h2⟩ => by
   obtain ⟨l', r', h5, hl, hr⟩ := node_right W e h2
   rw [optA_none hl, optA_none hr] at h5
   exact ⟨⟨b, e, hb⟩, h5⟩
theorem nd_right {R : Nat -> Prop} (W : WRel π u w) : ∀ {t : Tr} {b b' : Nat}, π b = some b' -> Nd nt dg R u t b -> Nd nt dg (fun y => ∃ x, π x = some y /\ R x) w t b'
 | .branch _ _ _, b, b', e, ⟨hb, bl, br, d, s, h2, h3, h4, h5⟩ => by
   obtain ⟨l', r', h6, hl, hr⟩ := node_right W e h2
   obtain ⟨yl, rfl, el⟩ := optA_ptr hl
   obtain ⟨yr, rfl, er⟩ := optA_ptr hr
   exact ⟨⟨b, e, hb⟩, yl, yr, d, s, h6, nd_right W el h3, nd_right W er h4, fun x => ⟨(h5 x).1, sd_right W el (h5 x).2.1, sd_right W er (h5 x).2.2⟩⟩
 | .empty, b, b', e, ⟨hb, d, s, h2, h3⟩ => by
   obtain ⟨l', r', h5, hl, hr⟩ := node_right W e h2
   rw [optA_none hl, optA_none hr] at h5
   exact ⟨⟨b, e, hb⟩, d, s, h5, h3⟩
 | .leaf _ _, b, b', e, ⟨hb, d, s, h2, h3⟩ => by
   obtain ⟨l', r', h5, hl, hr⟩ := node_right W e h2
   rw [optA_none hl, optA_none hr] at h5
   exact ⟨⟨b, e, hb⟩, d, s, h5, h3⟩
noncomputable def inv (π : Ren) (u w : World) (y : Nat) : Nat := open Classical in if y < w.heap.size then (if h : ∃ b, π b = some y then h.choose else 0) else u.heap.size + (y - w.heap.size)
noncomputable def backV (π : Ren) (u w : World) : Value -> Value
 | .pointer (some a) => .pointer (some ⟨inv π u w a.block, a.off, a.spot⟩)
 | v => v
noncomputable def backObj (π : Ren) (u w : World) : Option Obj -> Obj
 | some (.cells c t f) => .cells (c.map (backV π u w)) t f
 | _ => .cells #[] 0 (0, 0)
noncomputable def made (π : Ren) (u w w' : World) : World := { u with heap := u.heap ++ (Array.range (w'.heap.size - w.heap.size)).map fun j => backObj π u w w'.heap[w.heap.size + j]? }
def NewT (nt : TypeId) (dg : Int -> ByteArray -> ByteArray -> Int -> Int -> Int) (R : Nat -> Prop) (w w' : World) (y : Nat) : Prop := w.heap.size <= y /\ ∃ t, Sd nt dg R w' t y
noncomputable def wider (nt : TypeId) (dg : Int -> ByteArray -> ByteArray -> Int -> Int -> Int) (R : Nat -> Prop) (π : Ren) (u w w' : World) : Ren := open Classical in fun b =>
 if b < u.heap.size then π b else if NewT nt dg R w w' (w.heap.size + (b - u.heap.size)) then some (w.heap.size + (b - u.heap.size)) else none
omit [Env] in
theorem made_old {w' : World} {b : Nat} (h : b < u.heap.size) : (made π u w w').heap[b]? = u.heap[b]? := by
 unfold made
 rw [Array.getElem?_append_left h]
omit [Env] in
theorem made_size {w' : World} : (made π u w w').heap.size = u.heap.size + (w'.heap.size - w.heap.size) := by simp [made]
omit [Env] in
theorem made_new {w' : World} {y : Nat} (h : w.heap.size <= y) (h2 : y < w'.heap.size) : (made π u w w').heap[u.heap.size + (y - w.heap.size)]? = some (backObj π u w w'.heap[y]?) := by
 unfold made
 rw [Array.getElem?_append_right (by omega)]
 have e1 : u.heap.size + (y - w.heap.size) - u.heap.size = y - w.heap.size := by omega
 have e2 : w.heap.size + (y - w.heap.size) = y := by omega
 rw [e1]
 simp only [Array.getElem?_map]
 rw [Array.getElem?_eq_getElem (by simp; omega)]
 simp [e2]
theorem inv_old (W : WRel π u w) {x y : Nat} (h : π x = some y) : inv π u w y = x := by
 have hy := (W.size h).2
 unfold inv
 rw [if_pos hy, dif_pos ⟨x, h⟩]
 exact W.inj _ _ _ (Exists.choose_spec (p := fun b => π b = some y) ⟨x, h⟩) h
theorem wider_le (W : WRel π u w) {R : Nat -> Prop} {w' : World} : π.le (wider nt dg R π u w w') := fun a b h => by
 unfold wider
 rw [if_pos (W.size h).1]; exact h
omit [Env] in
theorem wider_new {R : Nat -> Prop} {w' : World} {y : Nat} (h : NewT nt dg R w w' y) : wider nt dg R π u w w' (inv π u w y) = some y := by
 have h1 := h.1
 unfold wider inv
 rw [if_neg (show ¬ y < w.heap.size by omega), if_neg (by omega)]
 have e : w.heap.size + (u.heap.size + (y - w.heap.size) - u.heap.size) = y := by omega
 rw [e, if_pos h]
omit [Env] in
theorem sd_lt {R : Nat -> Prop} {t : Tr} {y : Nat} (h : Sd nt dg R w t y) : y < w.heap.size := by
 have key : ∀ {kind : Int} {p v : ByteArray} {l r : Option Addr} {d : Int} {s : Bool}, NodeAt nt w y kind p v l r d s -> y < w.heap.size := fun ⟨_, e⟩ => (Array.getElem?_eq_some_iff.1 e).1
 cases t with
 | branch p l r => exact key h.2.choose_spec.choose_spec.1
 | empty => exact key h.2
 | leaf p v => exact key h.2
section
variable {R : Nat -> Prop} {w' : World} (hR : ∀ y, R y -> y < w.heap.size -> ∃ x, π x = some y /\ PlainB u x)
include hR
theorem wider_inv (W : WRel π u w) {t : Tr} {y : Nat} (h : Sd nt dg R w' t y) : wider nt dg R π u w w' (inv π u w y) = some y := by
 by_cases hy : y < w.heap.size
 . obtain ⟨x, hx, -⟩ := hR y (by cases t <;> exact h.1) hy
   rw [inv_old W hx]
   exact wider_le W _ _ hx
 . exact wider_new ⟨by omega, t, h⟩
theorem made_rel (W : WRel π u w) (h0 : Env.low = 0) (hs : ∀ b, ¬ Env.sealed b) (hold : ∀ x y o, π x = some y -> Same ⟨y, o, none⟩ w w') (hos : w'.os = w.os) : WRel (wider nt dg R π u w w') (made π u w w') w' := by
 have W1 : WRel π u w' := W.rely (fun b b' o hb => hold b b' o hb) hos
 have hw : ∀ a y, wider nt dg R π u w w' a = some y -> (a < u.heap.size /\ π a = some y) \/ (u.heap.size <= a /\ y = w.heap.size + (a - u.heap.size) /\ NewT nt dg R w w' y) := fun a y h => by
   unfold wider at h
   split at h
   . exact .inl ⟨by assumption, h⟩
   . split at h
     . rename_i h2
       cases h
       exact .inr ⟨by omega, rfl, h2⟩
     . cases h
 refine ⟨fun a b y ha hb => ?_, fun b y hb => ?_, W1.os, fun b hb => absurd hb (hs b), fun b hb => by omega, fun b c t f hb => absurd hb (hs b)⟩
 . rcases hw a y ha with ⟨h1, h2⟩ | ⟨h1, h2, h3⟩ <;> rcases hw b y hb with ⟨h4, h5⟩ | ⟨h4, h5, h6⟩
   . exact W.inj _ _ _ h2 h5
   . have := (W.size h2).2; have := h6.1; omega
   . have := (W.size h5).2; have := h3.1; omega
   . omega
 . rcases hw b y hb with ⟨h1, h2⟩ | ⟨h1, h2, h3⟩
   . obtain ⟨o, o', e1, e2, e3, e4⟩ := W1.obj b y h2
     exact ⟨o, o', (made_old h1).trans e1, e2, e3.mono (wider_le W), e4⟩
   . obtain ⟨h4, t, hS⟩ := h3
     have hlt := sd_lt hS
     have eb : b = u.heap.size + (y - w.heap.size) := by omega
     have hm := made_new (π := π) (u := u) h4 hlt
     rw [<- eb] at hm
     have key : ∀ {kind : Int} {p v : ByteArray} {l r : Option Addr} {d : Int} {s : Bool}, NodeAt nt w' y kind p v l r d s -> (∀ q, l = some q -> ∃ z t', q = ⟨z, 0, none⟩ /\ Sd nt dg R w' t' z) -> (∀ q, r = some q -> ∃ z t', q = ⟨z, 0, none⟩ /\ Sd nt dg R w' t' z) ->
         ∃ o o', (made π u w w').heap[b]? = some o /\ w'.heap[y]? = some o' /\ ORel (wider nt dg R π u w w') o o' /\ Cold b (ice o') (ice o) := by
       rintro kind p v l r d s ⟨fr, e⟩ hl hr
       rw [e] at hm
       refine ⟨_, _, hm, e, ⟨.of_get? (by simp) fun i x x' ex ex' => ?_, rfl⟩, .inl rfl⟩
       rw [Array.getElem?_map, ex'] at ex
       simp only [Option.map_some, Option.some.injEq] at ex
       subst ex
       have hi : i < 7 := by
         have := (Array.getElem?_eq_some_iff.1 ex').1
         simpa [nodeCells] using this
       have hptr : ∀ o : Option Addr, (∀ q, o = some q -> ∃ z t', q = ⟨z, 0, none⟩ /\ Sd nt dg R w' t' z) -> VRel (wider nt dg R π u w w') (backV π u w (.pointer o)) (.pointer o) := fun o ho => by
         cases o with
         | none => exact .pnil
         | some q =>
           obtain ⟨z, t', rfl, hz⟩ := ho q rfl
           exact .pointer ⟨wider_inv hR W hz, rfl, rfl, by rw [h0]; exact Nat.zero_le _⟩
       rcases i with _ | _ | _ | _ | _ | _ | _ | i
       . cases ex'; exact .int _ _
       . cases ex'; exact .string _
       . cases ex'; exact .string _
       . cases ex'; exact hptr l hl
       . cases ex'; exact hptr r hr
       . cases ex'; exact .int _ _
       . cases ex'; exact .bool _
       . omega
     cases t with
     | branch p tl tr =>
       obtain ⟨_, bl, br, g1, g2, g3⟩ := hS
       exact key g1 (fun q e => by cases e; exact ⟨bl, tl, rfl, g2⟩) (fun q e => by cases e; exact ⟨br, tr, rfl, g3⟩)
     | empty => exact key hS.2 (fun q e => by cases e) (fun q e => by cases e)
     | leaf p v => exact key hS.2 (fun q e => by cases e) (fun q e => by cases e)
theorem made_plain (W : WRel π u w) {t : Tr} {y : Nat} (h : Sd nt dg R w' t y) : PlainB (made π u w w') (inv π u w y) := by
 by_cases hy : y < w.heap.size
 . obtain ⟨x, hx, hp⟩ := hR y (by cases t <;> exact h.1) hy
   rw [inv_old W hx]
   intro i v c t f e
   rw [made_old (W.size hx).1] at e
   exact hp i v c t f e
 . have hm := made_new (π := π) (u := u) (Nat.not_lt.1 hy) (sd_lt h)
   have e0 : inv π u w y = u.heap.size + (y - w.heap.size) := by unfold inv; rw [if_neg hy]
   have key : ∀ {kind : Int} {p v : ByteArray} {l r : Option Addr} {d : Int} {s : Bool}, NodeAt nt w' y kind p v l r d s -> PlainB (made π u w w') (inv π u w y) := by
     rintro kind p v l r d s ⟨fr, e⟩ i x c t' f e1 e2
     rw [e0, hm, e] at e1
     cases e1
     rw [Array.getElem?_map] at e2
     have hb : ∀ o : Option Addr, ∃ o', backV π u w (.pointer o) = .pointer o' := fun o => by cases o <;> exact ⟨_, rfl⟩
     rcases i with _ | _ | _ | _ | _ | _ | _ | i
     . cases e2; rintro ⟨_, e⟩; cases e
     . cases e2; rintro ⟨_, e⟩; cases e
     . cases e2; rintro ⟨_, e⟩; cases e
     . obtain ⟨o', eo⟩ := hb l; rw [show (nodeCells kind p v l r d s)[3]? = some (.pointer l) from rfl, Option.map_some, eo] at e2; cases e2; rintro ⟨_, e⟩; cases e
     . obtain ⟨o', eo⟩ := hb r; rw [show (nodeCells kind p v l r d s)[4]? = some (.pointer r) from rfl, Option.map_some, eo] at e2; cases e2; rintro ⟨_, e⟩; cases e
     . cases e2; rintro ⟨_, e⟩; cases e
     . cases e2; rintro ⟨_, e⟩; cases e
     . rw [Array.getElem?_eq_none (by simp [nodeCells])] at e2; cases e2
   cases t with
   | branch p tl tr =>
     obtain ⟨_, bl, br, g1, g2, g3⟩ := h
     exact key g1
   | empty => exact key h.2
   | leaf p v => exact key h.2
theorem sd_made (W' : WRel (wider nt dg R π u w w') (made π u w w') w') (W : WRel π u w) : ∀ {t : Tr} {y : Nat}, Sd nt dg R w' t y -> Sd nt dg (fun _ => True) (made π u w w') t (inv π u w y)
 | .branch _ _ _, y, h => by
   have e := wider_inv hR W h
   have hh := h
   obtain ⟨_, bl, br, h2, h3, h4⟩ := h
   obtain ⟨l', r', h5, hl, hr⟩ := node_left W' (made_plain hR W hh) e h2
   obtain ⟨xl, rfl, el⟩ := optA_ptr' hl
   obtain ⟨xr, rfl, er⟩ := optA_ptr' hr
   have e1 : xl = inv π u w bl := W'.inj _ _ _ el (wider_inv hR W h3)
   have e2 : xr = inv π u w br := W'.inj _ _ _ er (wider_inv hR W h4)
   subst e1 e2
   exact ⟨trivial, _, _, h5, sd_made W' W h3, sd_made W' W h4⟩
 | .empty, y, h => by
   obtain ⟨l', r', h5, hl, hr⟩ := node_left W' (made_plain hR W h) (wider_inv hR W h) h.2
   rw [optA_none' hl, optA_none' hr] at h5
   exact ⟨trivial, h5⟩
 | .leaf _ _, y, h => by
   obtain ⟨l', r', h5, hl, hr⟩ := node_left W' (made_plain hR W h) (wider_inv hR W h) h.2
   rw [optA_none' hl, optA_none' hr] at h5
   exact ⟨trivial, h5⟩
end
end
end Go.Nest
