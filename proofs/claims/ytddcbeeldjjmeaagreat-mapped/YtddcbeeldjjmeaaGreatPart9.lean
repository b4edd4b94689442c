/- ONE GOROUTINE's WHOLE WAY, ALONE, BUT FOR CALLS THAT ARE ANSWERED FROM ELSEWHERE; taken over to a goroutine in company. -/
import Derived.Test.YtddcbeeldjjmeaaGreatPart8
import Derived.Test.YtddcbeeldjjmeaaGreatPart7
import Derived.Test.YtddcbeeldjjmeaaGreatPart3
import Derived.Conc.Holds
import Derived.Handy
import Derived.Below
namespace Go.Eq
open Go Go.Conc Go.Nest
open Go.ConcN (WgLive)
section
variable [Env] [Runs] {P : Program} {π : Ren}
structure AtCall (P : Program) (fr : Frame) (f : FuncId) (args : Array Operand) : Prop where
 run : fr.mode = .run
 kind : fr.kind = .normal
 round : fr.roundOf = none
 ops : ∃ ops i rest k o ats fn cd, fr.todo = .inRegion ops (i :: rest) :: k /\ ops[i]? = some o /\ Region.wanted o (yielded ops fr.tmps) = true /\ o.op = .call { callee := .value (.func f), args, argTypes := ats } /\
   P.funcs[f]? = some fn /\ (fn.name == "runtime.NumGoroutine") = false /\ fn.body = some cd
 args : ∀ x, x ∈ args -> OpdOk x
def onlyN (Q : Act -> World -> Prop) : Exit -> Act -> World -> Prop
 | .normal, a, w => Q a w
 | _, _, _ => False
def onlyR (Q : Act -> World -> Prop) : Exit -> Act -> World -> Prop
 | .ret, a, w => Q a w
 | _, _, _ => False
abbrev Oracle := FuncId -> Array Value -> World -> (Value -> World -> Prop) -> Prop
inductive LSc (P : Program) (Orc : Oracle) (Stop : Frame -> World -> Prop) : Goroutine -> World -> Prop
 | done {f : Frame} {u : World} : Stop f u -> LSc P Orc Stop (live f []) u
 | step {g : Goroutine} {u : World} (g1 : (Nat -> Question -> Nat) -> Goroutine) (u1 : (Nat -> Question -> Nat) -> World) : Free g -> (g.frame.mode = .returning ∨ g.frame.roundOf ≠ none -> g.callers ≠ []) -> (∀ t, ∃ es, stepG P true g (World.on u t) = .go (g1 t) (World.on (u1 t) t) es) ->
     (∀ t ch, (g1 t).frame.mode ≠ .panicking ch) -> (∀ t, LSc P Orc Stop (g1 t) (u1 t)) -> LSc P Orc Stop g u
 | norm {b : Frame} {a : Act} {c : Code} {k : List Item} {cs : List Frame} {u : World} (Q : Act -> World -> Prop) : @CodeFit _ plainRuns P c -> (∀ t, c.wp P (onlyN Q) a (World.on u t)) -> (∀ a' u' t, Q a' u' -> Q a' (World.on u' t)) ->
     (∀ a' u', Q a' u' -> LSc P Orc Stop (live (b.at a' k) cs) u') -> LSc P Orc Stop (live (b.at a (.code c :: k)) cs) u
 | last {b : Frame} {a : Act} {c : Code} {k : List Item} {cs : List Frame} {u : World} (Q : Act -> World -> Prop) : (∀ a' u', Q a' u' -> a'.defers = []) -> @CodeFit _ plainRuns P c -> (∀ t, c.wp P (onlyR Q) a (World.on u t)) -> (∀ a' u' t, Q a' u' -> Q a' (World.on u' t)) ->
     (∀ a' u' todo, Q a' u' -> LSc P Orc Stop (live { b.at a' todo with mode := .returning } cs) u') -> LSc P Orc Stop (live (b.at a (.code c :: k)) cs) u
 | enter {fr : Frame} {cs : List Frame} {u : World} {f : FuncId} {args : Array Operand} : AtCall P fr f args -> Runs.runs f -> LSc P Orc Stop (live (Frame.enter P f (args.map fr.eval) .normal) (fr :: cs)) u -> LSc P Orc Stop (live fr cs) u
 | call {fr : Frame} {cs : List Frame} {u : World} {f : FuncId} {args : Array Operand} {Post : Value -> World -> Prop} : AtCall P fr f args -> Orc f (args.map fr.eval) u Post -> (∀ x u', Post x u' -> LSc P Orc Stop (live (fr.finish x) cs) u') -> LSc P Orc Stop (live fr cs) u
theorem FsRel.trans {bs bs' fs fs' : List Frame} (x : FsRel P π bs bs' fs fs') (h : FsRel P π [] [] bs bs') : FsRel P π [] [] fs fs' := by
 induction x with
 | base => exact h
 | cons a _ ih => exact .cons a ih
theorem step_rel0 (ok : POk P) (hf : FnsOk P) (hb : BodiesOk P) {m0 m l : Bool} {g g' : Goroutine} {u w : World} (h : GRel P π [] [] g g') (hno : Free g) (hcs : g.frame.mode = .returning ∨ g.frame.roundOf ≠ none -> g.callers ≠ []) (W : WRel π u w) (T : Tapes u w) :
   match stepG P m0 g u l with
   | .go g1 u1 _ => (∃ ch, g1.frame.mode = .panicking ch) ∨ ∃ g1' w1 π1 gs es, stepG P m g' w = .go g1' w1 es /\ (∀ e, e ∈ es -> e ∈ gs) /\ GRel P π1 [] [] g1 g1' /\ WRel π1 u1 w1 /\ Tapes u1 w1 /\ Eff π π1 w w1 gs
   | .ended _ _ _ => True
   | _ => False := by
 obtain ⟨f, f', cs, cs', rfl, rfl, h1, h2⟩ := h
 rcases h1.live with hr | ⟨hr, -⟩
 · have hS := exec_rel (m0 := m0) (m := m) (l := l) ok hf hb h1 hno hr h2 (fun h => hcs (.inr h)) (.inr rfl) W T
   cases hst : stepG P m0 (live f cs) u l <;> rw [hst] at hS <;> first | exact hS | skip
   rename_i g1 u1 es1
   rcases hS with ⟨f1, ds, ch, e1, e2, -⟩ | ⟨g1', w1, π1, gs, es, e1, e2, hrel, e3, e4, e5⟩
   · exact .inl ⟨ch, by rw [e1]; exact e2⟩
   · rcases hrel with hrel | ⟨b, l0, b', l', v, v', eb, -⟩
     · exact .inr ⟨g1', w1, π1, gs, es, e1, e2, hrel, e3, e4, e5⟩
     · cases eb
 · have hne : cs ≠ [] := hcs (.inl hr)
   cases h2 with
   | base => exact absurd rfl hne
   | @cons c1 c1' k k' hc hk =>
     have hS := leave_rel (m0 := m0) (m := m) (l := l) (lr := k) (rr := k') hb h1 hr (.base : FsRel P π (c1 :: k) (c1' :: k') (c1 :: k) (c1' :: k')) W T
     cases hst : stepG P m0 (live f (c1 :: k)) u l <;> rw [hst] at hS <;> first | exact hS | skip
     rename_i g1 u1 es1
     rcases hS with ⟨f1, ds, ch, e1, e2, -⟩ | ⟨g1', w1, π1, gs, es, e1, e2, hrel, e3, e4, e5⟩
     · exact .inl ⟨ch, by rw [e1]; exact e2⟩
     · refine .inr ⟨g1', w1, π1, gs, es, e1, e2, ?_, e3, e4, e5⟩
       have hc1 := hc.mono e5.le
       have hk1 := hk.mono e5.le
       rcases hrel with ⟨f2, f2', cs2, cs2', rfl, rfl, h3, h4⟩ | ⟨b, l0, b', l', v, v', eb, eb', hv, rfl, rfl⟩
       · exact ⟨f2, f2', cs2, cs2', rfl, rfl, h3, h4.trans (.cons hc1 hk1)⟩
       · cases eb
         cases eb'
         exact ⟨_, _, _, _, rfl, rfl, hc1.finish hv, hk1⟩
omit [Env] [Runs] in
theorem frame_at {fr : Frame} {x : List Item} (h : fr.mode = .run) (hr : fr.roundOf = none) (e : fr.todo = x) : fr = fr.at ⟨fr.tmps, fr.defers⟩ x := by
 subst e
 cases fr
 simp only at h hr
 subst h hr
 rfl
theorem args_rel {fr fr' : Frame} (h : FrRel P π fr fr') {args : Array Operand} (ha : ∀ x, x ∈ args -> OpdOk x) : VsRel π (args.map fr.eval) (args.map fr'.eval) := by
 refine .of_get? (by simp) fun i v v' e e' => ?_
 rw [Array.getElem?_map] at e e'
 cases hx : args[i]? with
 | none => rw [hx] at e; cases e
 | some x =>
   rw [hx] at e e'
   simp only [Option.map_some, Option.some.injEq] at e e'
   subst e e'
   exact h.eval (ha x (Array.mem_of_getElem? hx))
theorem enter_sc {ty : TypeId} {FinN : Perm -> Perm -> Goroutine -> World -> Prop} {c : Cfg} {w : World} {fr fr' : Frame} {cs' : List Frame} {f : FuncId} {args : Array Operand} (h : FrRel P π fr fr') (hA : AtCall P fr f args) (S : Snug c w)
   (K : ScS ty P FinN .work c (Eq.live (Frame.enter P f (args.map fr'.eval) .normal) (fr' :: cs')) w) : ScS ty P FinN .work c (Eq.live fr' cs') w := by
 obtain ⟨ops, i, rest, k, o, ats, fn, cd, h1, h2, h3, h4, h5, h6, h7⟩ := hA.ops
 have ht : fr'.todo = .inRegion ops (i :: rest) :: k.map (rnI π) := by rw [h.todo, h1]; rfl
 have hro' : fr'.roundOf = none := round_none h.round hA.round
 have e := frame_at (h.mode ▸ hA.run) hro' ht
 have ee : (⟨fr'.tmps, fr'.defers⟩ : Act).eval = fr'.eval := by
   funext x
   rw [<- Frame.eval_at fr' ⟨fr'.tmps, fr'.defers⟩ (.inRegion ops (i :: rest) :: k.map (rnI π)), <- e]
 have hE := ScS.enter (ty := ty) (P := P) (FinN := FinN) (s := .work) (b := fr') (a := ⟨fr'.tmps, fr'.defers⟩) (k := k.map (rnI π)) (cs := cs') (ops := ops) (i := i) (rest := rest) (o := o) (f := f) (fn := fn) (cd := cd) (args := args) (ats := ats) rfl S h2 (by rw [<- yielded_rel h.tmps]; exact h3) (by rw [h.kind']; decide) h4 h5 h6 h7
 rw [<- e, ee] at hE
 exact hE K
omit [Runs] in
theorem opsFit_up [Runs] {ops : Array Oper} (h : @OpsFit _ plainRuns P ops) : OpsFit P ops := fun i o e => .inr ((h i o e).resolve_left fun h => h)
omit [Runs] in
theorem codeFit_up [Runs] {c : Code} (h : @CodeFit _ plainRuns P c) : CodeFit P c := by
 induction c with
 | region _ _ _ => exact opsFit_up h
 | seq _ _ i1 i2 => exact ⟨i1 h.1, i2 h.2⟩
 | cond _ _ _ i1 i2 => exact ⟨h.1, i1 h.2.1, i2 h.2.2⟩
 | block _ _ i => exact i h
 | loop _ i => exact i h
 | scope _ i => exact i h
 | _ => exact h
omit [Runs] in
theorem itemFit_up [Runs] : ∀ {x : Item}, @ItemFit _ plainRuns P x -> ItemFit P x := by
 intro x h
 cases x
 case code c => exact codeFit_up h
 case inLoop c => exact codeFit_up h
 case inScope c => exact codeFit_up h
 case inRegion ops is => exact opsFit_up h
 all_goals exact h
theorem piece_frame {b : Frame} {a : Act} {c : Code} {k : List Item} {f' : Frame} (h : FrRel P π (b.at a (.code c :: k)) f') (hc : @CodeFit _ plainRuns P c) : @FrRel _ plainRuns P π (ext stopK (b.at a [.code c])) (ext stopK { f' with todo := [.code c] }) := by
 obtain ⟨h1, h2, h3, -, -, -, h6, h8, h9, h10, h11, h12, h13⟩ := h
 refine @FrRel.mk _ plainRuns P π _ _ h1 h2 h3 rfl (fun x hx => ?_) (fun x hx => ?_) h6 h8 h9 h10 h11 h12 h13
 · have hx : x ∈ [Item.code c, Item.code (.refuse "")] := hx
   simp only [List.mem_cons, List.not_mem_nil, or_false] at hx
   rcases hx with rfl | rfl <;> exact trivial
 · have hx : x ∈ [Item.code c, Item.code (.refuse "")] := hx
   simp only [List.mem_cons, List.not_mem_nil, or_false] at hx
   rcases hx with rfl | rfl
   · exact hc
   · exact trivial
omit [Runs] in
theorem frRel_up [Runs] {f f' : Frame} {k k' : List Item} (h : @FrRel _ plainRuns P π f f') (hk' : k' = k.map (rnI π)) (hd : ∀ x, x ∈ k -> LoopOk π x) (hk : ∀ x, x ∈ k -> ItemFit P x) : FrRel P π (ext k f) (ext k' f') := by
 obtain ⟨h1, h2, h3, h4, h4', h5, h6, h8, h9, h10, h11, h12, h13⟩ := h
 subst hk'
 refine ⟨h1, h2, h3, ?_, fun x hx => ?_, fun x hx => ?_, h6, h8, h9, h10, h11, h12, h13⟩
 · show f'.todo ++ k.map (rnI π) = (f.todo ++ k).map (rnI π)
   rw [h4, List.map_append]
 · rcases List.mem_append.1 hx with hx | hx
   · exact h4' x hx
   · exact hd x hx
 · rcases List.mem_append.1 hx with hx | hx
   · exact itemFit_up (h5 x hx)
   · exact hk x hx
end
section
variable [Env] {P : Program}
def CallsOrc (P : Program) : Oracle := fun f args u Post =>
 Env.fnOk f /\ (∀ t, Calls P f args (World.on u t) fun e w => ∃ v, e = .returned v /\ Post v w) /\ ∀ v u t, Post v u -> Post v (World.on u t)
def OrOrc (O O' : Oracle) : Oracle := fun f args u Post => O f args u Post ∨ O' f args u Post
variable {ty : TypeId} {FinN : Perm -> Perm -> Goroutine -> World -> Prop} {C : Cfg -> Prop}
end
section
variable [Env] [Runs] {P : Program} {Orc : Oracle} {Stop : Frame -> World -> Prop} {u : World} {b : Frame} {a : Act} {k : List Item} {cs : List Frame} {ops : Array Oper} {i : Nat} {rest : List Nat} {o : Oper} {v : Value}
theorem LSc.ctl {g g' : Goroutine} (hf : Free g) (hr : g.frame.mode = .returning ∨ g.frame.roundOf ≠ none -> g.callers ≠ []) (h : ∀ w, stepG P true g w = .go g' w #[]) (hm : ∀ ch, g'.frame.mode ≠ .panicking ch) (K : LSc P Orc Stop g' u) : LSc P Orc Stop g u :=
 .step (fun _ => g') (fun _ => u) hf hr (fun _ => ⟨_, h _⟩) (fun _ => hm) fun _ => K
omit [Env] [Runs] in
theorem mode_at (x : Frame) (a : Act) (t : List Item) (cs : List Frame) : ∀ ch, (G (x.at a t) cs).frame.mode ≠ .panicking ch := fun ch e => by cases e
theorem LSc.val {u' : World} (hf : ¬ Runs.orc o) (ho : ops[i]? = some o) (hw : Region.wanted o (yielded ops a.tmps) = true) (hk : b.kind ≠ .early)
   (h : ∀ t, (execOp a.eval o).run P (World.on u t) = .ok (.value v) (World.on u' t)) (K : LSc P Orc Stop (G (b.at (a.put o.dst v) (.inRegion ops rest :: k)) cs) u') : LSc P Orc Stop (G (b.at a (.inRegion ops (i :: rest) :: k)) cs) u := by
 refine .step (fun _ => _) (fun _ => u') (fun ops' i' is' k' o' e e' => ?_) (fun e => e.elim (fun e => by cases e) fun e => absurd rfl e) (fun t => ⟨_, stepG_value ho hw hk (h t)⟩) (fun _ => mode_at _ _ _ _) fun _ => K
 simp only [G, Frame.at, List.cons.injEq, Item.inRegion.injEq] at e
 obtain ⟨⟨rfl, rfl, -⟩, -⟩ := e
 rw [ho] at e'
 cases e'
 exact hf
end
end Go.Eq
namespace Go.Nest
open Go Go.Conc Go.Eq
open Go.ConcN (WgLive)
section
variable {ty : TypeId} {P : Program} {FinN : Perm -> Perm -> Goroutine -> World -> Prop} {s : Stg} {c c' : Cfg} {w w' : World}
theorem ScS.turn {g g' : Goroutine} {own' rd' : Perm} (hs : s.early = true) (hr : g.status = .running) (ho : g.offers = none) (hm : c.main = true) (hcur : c.cur = none) (S : Snug c w) (h : ∀ w₁, stepG P c.main g w₁ = .go g' w₁ #[])
   (h1 : ∀ a, own' a -> c.own a ∨ c.rd a) (h2 : ∀ a, rd' a -> c.own a ∨ c.rd a) (K : ScS ty P FinN s { c with own := own', rd := rd' } g' w) : ScS ty P FinN s c g w := by
 refine ScS.ord hs hr ho fun w₁ hrel => ⟨g', w₁, #[], { c with own := own', rd := rd' }, h w₁, ?_, K.rely ?_⟩
 · have S1 := S.rely hrel
   refine ⟨Nat.le_refl _, fun _ _ _ => rfl, fun a _ _ => .refl a w₁, fun _ _ h => h, rfl, rfl, rfl, fun e he => by simp at he, fun j e x hj => by simp at hj, rfl, rfl, fun a ha => ⟨(h1 a ha).elim .inl fun e => .inr (.inr ⟨hm, hcur, e⟩), S1.low a (h1 a ha)⟩, fun a ha => ⟨(h2 a ha).elim (fun e => .inr (.inl e)) .inl, S1.low a (h2 a ha)⟩, rfl, rfl, rfl, rfl, .inl rfl⟩
 · exact ⟨hrel.size, fun a ha => hrel.same a (ha.elim (h1 a) (h2 a)), hrel.shape, hrel.cur, hrel.up, hrel.os, hrel.tape, hrel.output⟩
structure Over (ty : TypeId) (c : Cfg) (w : World) (c' : Cfg) (w' : World) : Prop where
 cfg : c' = { c with own := c'.own, rd := c'.rd }
 own : ∀ a, c.own a ∨ c.rd a -> c'.own a
 own' : ∀ a, c'.own a -> c.own a ∨ c.rd a ∨ w.heap.size <= a.block
 size : w.heap.size <= w'.heap.size
 same : ∀ a, c.own a ∨ c.rd a -> Same a w w'
 shape : ∀ b s, w.shape? b = some s -> w'.shape? b = some s
 up : ∀ z v, c.up = some (z, v) -> WgLive ty z w -> WgLive ty z w'
 os : w'.os = w.os
 tape : w'.tape = w.tape
 output : w'.output = w.output
 snug : Snug c' w'
end
section
variable [Env] {nt : TypeId} {dg : Int -> ByteArray -> ByteArray -> Int -> Int -> Int} {π : Ren} {u w : World}
def OptA (π : Ren) (l l' : Option Addr) : Prop := (l = none /\ l' = none) ∨ ∃ x y, l = some x /\ l' = some y /\ ARel π x y
theorem optA_ptr {x : Nat} {l' : Option Addr} (h : OptA π (ptr x) l') : ∃ y, l' = ptr y /\ π x = some y := by
 rcases h with ⟨h, -⟩ | ⟨a, b, e, rfl, h⟩
 · cases h
 · cases e
   obtain ⟨b1, o1, s1⟩ := b
   obtain ⟨h1, h2, h3, -⟩ := h
   simp only at h1 h2 h3
   subst h2 h3
   exact ⟨b1, rfl, h1⟩
theorem optA_ptr' {y : Nat} {l : Option Addr} (h : OptA π l (ptr y)) : ∃ x, l = ptr x /\ π x = some y := by
 rcases h with ⟨-, h⟩ | ⟨a, b, rfl, e, h⟩
 · cases h
 · cases e
   obtain ⟨b1, o1, s1⟩ := a
   obtain ⟨h1, h2, h3, -⟩ := h
   simp only at h1 h2 h3
   subst h2 h3
   exact ⟨b1, rfl, h1⟩
theorem optA_none {l' : Option Addr} (h : OptA π none l') : l' = none := by
 rcases h with ⟨-, h⟩ | ⟨a, b, e, -⟩
 · exact h
 · cases e
theorem optA_none' {l : Option Addr} (h : OptA π l none) : l = none := by
 rcases h with ⟨h, -⟩ | ⟨a, b, -, e, -⟩
 · exact h
 · cases e
theorem cells_right {kind : Int} {p v : ByteArray} {l r : Option Addr} {d : Int} {s : Bool} {c : Array Value} (h : VsRel π (nodeCells kind p v l r d s) c) : ∃ l' r', c = nodeCells kind p v l' r' d s /\ OptA π l l' /\ OptA π r r' := by
 have g : ∀ i x, (nodeCells kind p v l r d s)[i]? = some x -> ∃ y, c[i]? = some y /\ VRel π x y := fun i x e => by
   rcases h.get? i with ⟨e1, -⟩ | ⟨x1, y, e1, e2, e3⟩
   · rw [e] at e1; cases e1
   · rw [e] at e1; cases e1; exact ⟨y, e2, e3⟩
 have hp : ∀ {o : Option Addr} {y : Value}, VRel π (.pointer o) y -> ∃ o', y = .pointer o' /\ OptA π o o' := fun {o y} hv => by
   cases hv with
   | pnil => exact ⟨none, rfl, .inl ⟨rfl, rfl⟩⟩
   | pointer ha => exact ⟨_, rfl, .inr ⟨_, _, rfl, rfl, ha⟩⟩
 obtain ⟨y0, e0, h0⟩ := g 0 _ rfl
 obtain ⟨y1, e1, h1⟩ := g 1 _ rfl
 obtain ⟨y2, e2, h2⟩ := g 2 _ rfl
 obtain ⟨y3, e3, h3⟩ := g 3 _ rfl
 obtain ⟨y4, e4, h4⟩ := g 4 _ rfl
 obtain ⟨y5, e5, h5⟩ := g 5 _ rfl
 obtain ⟨y6, e6, h6⟩ := g 6 _ rfl
 obtain ⟨l', rfl, hl⟩ := hp h3
 obtain ⟨r', rfl, hr⟩ := hp h4
 cases h0; cases h1; cases h2; cases h5; cases h6
 refine ⟨l', r', Array.ext_getElem? fun i => ?_, hl, hr⟩
 rcases i with _ | _ | _ | _ | _ | _ | _ | i
 · exact e0
 · exact e1
 · exact e2
 · exact e3
 · exact e4
 · exact e5
 · exact e6
 · have hs : c.size = 7 := h.1.symm
   rw [Array.getElem?_eq_none (by omega)]
   simp [nodeCells]
def PlainB (u : World) (b : Nat) : Prop := ∀ (i : Nat) v c t f, u.heap[b]? = some (.cells c t f) -> c[i]? = some v -> ¬ IsJunk v
theorem cells_left {kind : Int} {p v : ByteArray} {l r : Option Addr} {d : Int} {s : Bool} {c : Array Value} (hj : ∀ (i : Nat) v, c[i]? = some v -> ¬ IsJunk v) (h : VsRel π c (nodeCells kind p v l r d s)) : ∃ l' r', c = nodeCells kind p v l' r' d s /\ OptA π l' l /\ OptA π r' r := by
 have g : ∀ i x, (nodeCells kind p v l r d s)[i]? = some x -> ∃ y, c[i]? = some y /\ VRel π y x := fun i x e => by
   rcases h.get? i with ⟨-, e1⟩ | ⟨x1, y, e1, e2, e3⟩
   · rw [e] at e1; cases e1
   · rw [e] at e2; cases e2; exact ⟨x1, e1, e3⟩
 have hp : ∀ {o : Option Addr} {y : Value}, ¬ IsJunk y -> VRel π y (.pointer o) -> ∃ o', y = .pointer o' /\ OptA π o' o := fun {o y} hn hv => by
   cases hv with
   | junk _ => exact absurd ⟨_, rfl⟩ hn
   | pnil => exact ⟨none, rfl, .inl ⟨rfl, rfl⟩⟩
   | pointer ha => exact ⟨_, rfl, .inr ⟨_, _, rfl, rfl, ha⟩⟩
 obtain ⟨y0, e0, h0⟩ := g 0 _ rfl
 obtain ⟨y1, e1, h1⟩ := g 1 _ rfl
 obtain ⟨y2, e2, h2⟩ := g 2 _ rfl
 obtain ⟨y3, e3, h3⟩ := g 3 _ rfl
 obtain ⟨y4, e4, h4⟩ := g 4 _ rfl
 obtain ⟨y5, e5, h5⟩ := g 5 _ rfl
 obtain ⟨y6, e6, h6⟩ := g 6 _ rfl
 obtain ⟨l', rfl, hl⟩ := hp (hj 3 _ e3) h3
 obtain ⟨r', rfl, hr⟩ := hp (hj 4 _ e4) h4
 have n0 := hj 0 _ e0
 have n1 := hj 1 _ e1
 have n2 := hj 2 _ e2
 have n5 := hj 5 _ e5
 have n6 := hj 6 _ e6
 cases h0 <;> first | exact absurd ⟨_, rfl⟩ n0 | skip
 cases h1 <;> first | exact absurd ⟨_, rfl⟩ n1 | skip
 cases h2 <;> first | exact absurd ⟨_, rfl⟩ n2 | skip
 cases h5 <;> first | exact absurd ⟨_, rfl⟩ n5 | skip
 cases h6 <;> first | exact absurd ⟨_, rfl⟩ n6 | skip
 refine ⟨l', r', Array.ext_getElem? fun i => ?_, hl, hr⟩
 rcases i with _ | _ | _ | _ | _ | _ | _ | i
 · exact e0
 · exact e1
 · exact e2
 · exact e3
 · exact e4
 · exact e5
 · exact e6
 · have hs : c.size = 7 := h.1
   rw [Array.getElem?_eq_none (by omega)]
   simp [nodeCells]
theorem node_right (W : WRel π u w) {b b' : Nat} (e : π b = some b') {kind : Int} {p v : ByteArray} {l r : Option Addr} {d : Int} {s : Bool} (h : NodeAt nt u b kind p v l r d s) : ∃ l' r', NodeAt nt w b' kind p v l' r' d s /\ OptA π l l' /\ OptA π r r' := by
 obtain ⟨o, o', h1, h2, h3, -⟩ := W.obj b b' e
 obtain ⟨fr, h⟩ := h
 rw [h] at h1
 cases h1
 cases o' <;> simp only [ORel] at h3 <;> first | exact h3.elim | skip
 obtain ⟨h3, rfl⟩ := h3
 obtain ⟨l', r', rfl, hl, hr⟩ := cells_right h3
 exact ⟨l', r', ⟨_, h2⟩, hl, hr⟩
theorem node_left (W : WRel π u w) {b b' : Nat} (hj : PlainB u b) (e : π b = some b') {kind : Int} {p v : ByteArray} {l r : Option Addr} {d : Int} {s : Bool} (h : NodeAt nt w b' kind p v l r d s) : ∃ l' r', NodeAt nt u b kind p v l' r' d s /\ OptA π l' l /\ OptA π r' r := by
 obtain ⟨o, o', h1, h2, h3, -⟩ := W.obj b b' e
 obtain ⟨fr, h⟩ := h
 rw [h] at h2
 cases h2
 cases o <;> simp only [ORel] at h3 <;> first | exact h3.elim | skip
 obtain ⟨h3, rfl⟩ := h3
 obtain ⟨l', r', rfl, hl, hr⟩ := cells_left (fun i v e => hj i v _ _ _ h1 e) h3
 exact ⟨l', r', ⟨_, h1⟩, hl, hr⟩
omit [Env] in
theorem node_plain {b : Nat} {kind : Int} {p v : ByteArray} {l r : Option Addr} {d : Int} {s : Bool} (h : NodeAt nt u b kind p v l r d s) : PlainB u b := by
 obtain ⟨fr, e⟩ := h
 intro i x c t f e1 e2
 rw [e] at e1
 cases e1
 rcases i with _ | _ | _ | _ | _ | _ | _ | i
 · cases e2; rintro ⟨_, e⟩; cases e
 · cases e2; rintro ⟨_, e⟩; cases e
 · cases e2; rintro ⟨_, e⟩; cases e
 · cases e2; rintro ⟨_, e⟩; cases e
 · cases e2; rintro ⟨_, e⟩; cases e
 · cases e2; rintro ⟨_, e⟩; cases e
 · cases e2; rintro ⟨_, e⟩; cases e
 · rw [Array.getElem?_eq_none (by simp [nodeCells])] at e2; cases e2
omit [Env] in
theorem sd_plain {R : Nat -> Prop} : ∀ {t : Tr} {b : Nat}, Sd nt dg R u t b -> Sd nt dg (PlainB u) u t b
 | .branch _ _ _, _, ⟨_, bl, br, h2, h3, h4⟩ => ⟨node_plain h2, bl, br, h2, sd_plain h3, sd_plain h4⟩
 | .empty, _, ⟨_, h2⟩ => ⟨node_plain h2, h2⟩
 | .leaf _ _, _, ⟨_, h2⟩ => ⟨node_plain h2, h2⟩
omit [Env] in
theorem nd_plain {R : Nat -> Prop} : ∀ {t : Tr} {b : Nat}, Nd nt dg R u t b -> Nd nt dg (PlainB u) u t b
 | .branch _ _ _, _, ⟨_, bl, br, d, s, h2, h3, h4, h5⟩ => ⟨node_plain h2, bl, br, d, s, h2, nd_plain h3, nd_plain h4, fun x => ⟨(h5 x).1, sd_plain (h5 x).2.1, sd_plain (h5 x).2.2⟩⟩
 | .empty, _, ⟨_, d, s, h2, h3⟩ => ⟨node_plain h2, d, s, h2, h3⟩
 | .leaf _ _, _, ⟨_, d, s, h2, h3⟩ => ⟨node_plain h2, d, s, h2, h3⟩
theorem sd_right {R : Nat -> Prop} (W : WRel π u w) : ∀ {t : Tr} {b b' : Nat}, π b = some b' -> Sd nt dg R u t b -> Sd nt dg (fun y => ∃ x, π x = some y /\ R x) w t b'
 | .branch _ _ _, b, b', e, ⟨hb, bl, br, h2, h3, h4⟩ => by
   obtain ⟨l', r', h5, hl, hr⟩ := node_right W e h2
   obtain ⟨yl, rfl, el⟩ := optA_ptr hl
   obtain ⟨yr, rfl, er⟩ := optA_ptr hr
   exact ⟨⟨b, e, hb⟩, yl, yr, h5, sd_right W el h3, sd_right W er h4⟩
 | .empty, b, b', e, ⟨hb, h2⟩ => by
   obtain ⟨l', r', h5, hl, hr⟩ := node_right W e h2
   rw [optA_none hl, optA_none hr] at h5
   exact ⟨⟨b, e, hb⟩, h5⟩
 | .leaf _ _, b, b', e, ⟨hb, h2⟩ => by
   obtain ⟨l', r', h5, hl, hr⟩ := node_right W e h2
   rw [optA_none hl, optA_none hr] at h5
   exact ⟨⟨b, e, hb⟩, h5⟩
theorem nd_right {R : Nat -> Prop} (W : WRel π u w) : ∀ {t : Tr} {b b' : Nat}, π b = some b' -> Nd nt dg R u t b -> Nd nt dg (fun y => ∃ x, π x = some y /\ R x) w t b'
 | .branch _ _ _, b, b', e, ⟨hb, bl, br, d, s, h2, h3, h4, h5⟩ => by
   obtain ⟨l', r', h6, hl, hr⟩ := node_right W e h2
   obtain ⟨yl, rfl, el⟩ := optA_ptr hl
   obtain ⟨yr, rfl, er⟩ := optA_ptr hr
   exact ⟨⟨b, e, hb⟩, yl, yr, d, s, h6, nd_right W el h3, nd_right W er h4, fun x => ⟨(h5 x).1, sd_right W el (h5 x).2.1, sd_right W er (h5 x).2.2⟩⟩
 | .empty, b, b', e, ⟨hb, d, s, h2, h3⟩ => by
   obtain ⟨l', r', h5, hl, hr⟩ := node_right W e h2
   rw [optA_none hl, optA_none hr] at h5
   exact ⟨⟨b, e, hb⟩, d, s, h5, h3⟩
 | .leaf _ _, b, b', e, ⟨hb, d, s, h2, h3⟩ => by
   obtain ⟨l', r', h5, hl, hr⟩ := node_right W e h2
   rw [optA_none hl, optA_none hr] at h5
   exact ⟨⟨b, e, hb⟩, d, s, h5, h3⟩
noncomputable def inv (π : Ren) (u w : World) (y : Nat) : Nat := open Classical in if y < w.heap.size then (if h : ∃ b, π b = some y then h.choose else 0) else u.heap.size + (y - w.heap.size)
noncomputable def backV (π : Ren) (u w : World) : Value -> Value
 | .pointer (some a) => .pointer (some ⟨inv π u w a.block, a.off, a.spot⟩)
 | v => v
noncomputable def backObj (π : Ren) (u w : World) : Option Obj -> Obj
 | some (.cells c t f) => .cells (c.map (backV π u w)) t f
 | _ => .cells #[] 0 (0, 0)
noncomputable def made (π : Ren) (u w w' : World) : World := { u with heap := u.heap ++ (Array.range (w'.heap.size - w.heap.size)).map fun j => backObj π u w w'.heap[w.heap.size + j]? }
def NewT (nt : TypeId) (dg : Int -> ByteArray -> ByteArray -> Int -> Int -> Int) (R : Nat -> Prop) (w w' : World) (y : Nat) : Prop := w.heap.size <= y /\ ∃ t, Sd nt dg R w' t y
noncomputable def wider (nt : TypeId) (dg : Int -> ByteArray -> ByteArray -> Int -> Int -> Int) (R : Nat -> Prop) (π : Ren) (u w w' : World) : Ren := open Classical in fun b =>
 if b < u.heap.size then π b else if NewT nt dg R w w' (w.heap.size + (b - u.heap.size)) then some (w.heap.size + (b - u.heap.size)) else none
omit [Env] in
theorem made_old {w' : World} {b : Nat} (h : b < u.heap.size) : (made π u w w').heap[b]? = u.heap[b]? := by
 unfold made
 rw [Array.getElem?_append_left h]
omit [Env] in
theorem made_size {w' : World} : (made π u w w').heap.size = u.heap.size + (w'.heap.size - w.heap.size) := by simp [made]
omit [Env] in
theorem made_new {w' : World} {y : Nat} (h : w.heap.size <= y) (h2 : y < w'.heap.size) : (made π u w w').heap[u.heap.size + (y - w.heap.size)]? = some (backObj π u w w'.heap[y]?) := by
 unfold made
 rw [Array.getElem?_append_right (by omega)]
 have e1 : u.heap.size + (y - w.heap.size) - u.heap.size = y - w.heap.size := by omega
 have e2 : w.heap.size + (y - w.heap.size) = y := by omega
 rw [e1]
 simp only [Array.getElem?_map]
 rw [Array.getElem?_eq_getElem (by simp; omega)]
 simp [e2]
theorem inv_old (W : WRel π u w) {x y : Nat} (h : π x = some y) : inv π u w y = x := by
 have hy := (W.size h).2
 unfold inv
 rw [if_pos hy, dif_pos ⟨x, h⟩]
 exact W.inj _ _ _ (Exists.choose_spec (p := fun b => π b = some y) ⟨x, h⟩) h
theorem wider_le (W : WRel π u w) {R : Nat -> Prop} {w' : World} : π.le (wider nt dg R π u w w') := fun a b h => by
 unfold wider
 rw [if_pos (W.size h).1]; exact h
omit [Env] in
theorem wider_new {R : Nat -> Prop} {w' : World} {y : Nat} (h : NewT nt dg R w w' y) : wider nt dg R π u w w' (inv π u w y) = some y := by
 have h1 := h.1
 unfold wider inv
 rw [if_neg (show ¬ y < w.heap.size by omega), if_neg (by omega)]
 have e : w.heap.size + (u.heap.size + (y - w.heap.size) - u.heap.size) = y := by omega
 rw [e, if_pos h]
omit [Env] in
theorem sd_lt {R : Nat -> Prop} {t : Tr} {y : Nat} (h : Sd nt dg R w t y) : y < w.heap.size := by
 have key : ∀ {kind : Int} {p v : ByteArray} {l r : Option Addr} {d : Int} {s : Bool}, NodeAt nt w y kind p v l r d s -> y < w.heap.size := fun ⟨_, e⟩ => (Array.getElem?_eq_some_iff.1 e).1
 cases t with
 | branch p l r => exact key h.2.choose_spec.choose_spec.1
 | empty => exact key h.2
 | leaf p v => exact key h.2
section
variable {R : Nat -> Prop} {w' : World} (hR : ∀ y, R y -> y < w.heap.size -> ∃ x, π x = some y /\ PlainB u x)
include hR
theorem wider_inv (W : WRel π u w) {t : Tr} {y : Nat} (h : Sd nt dg R w' t y) : wider nt dg R π u w w' (inv π u w y) = some y := by
 by_cases hy : y < w.heap.size
 · obtain ⟨x, hx, -⟩ := hR y (by cases t <;> exact h.1) hy
   rw [inv_old W hx]
   exact wider_le W _ _ hx
 · exact wider_new ⟨by omega, t, h⟩
theorem made_rel (W : WRel π u w) (h0 : Env.low = 0) (hs : ∀ b, ¬ Env.sealed b) (hold : ∀ x y o, π x = some y -> Same ⟨y, o, none⟩ w w') (hos : w'.os = w.os) : WRel (wider nt dg R π u w w') (made π u w w') w' := by
 have W1 : WRel π u w' := W.rely (fun b b' o hb => hold b b' o hb) hos
 have hw : ∀ a y, wider nt dg R π u w w' a = some y -> (a < u.heap.size /\ π a = some y) ∨ (u.heap.size <= a /\ y = w.heap.size + (a - u.heap.size) /\ NewT nt dg R w w' y) := fun a y h => by
   unfold wider at h
   split at h
   · exact .inl ⟨by assumption, h⟩
   · split at h
     · rename_i h2
       cases h
       exact .inr ⟨by omega, rfl, h2⟩
     · cases h
 refine ⟨fun a b y ha hb => ?_, fun b y hb => ?_, W1.os, fun b hb => absurd hb (hs b), fun b hb => by omega, fun b c t f hb => absurd hb (hs b)⟩
 · rcases hw a y ha with ⟨h1, h2⟩ | ⟨h1, h2, h3⟩ <;> rcases hw b y hb with ⟨h4, h5⟩ | ⟨h4, h5, h6⟩
   · exact W.inj _ _ _ h2 h5
   · have := (W.size h2).2; have := h6.1; omega
   · have := (W.size h5).2; have := h3.1; omega
   · omega
 · rcases hw b y hb with ⟨h1, h2⟩ | ⟨h1, h2, h3⟩
   · obtain ⟨o, o', e1, e2, e3, e4⟩ := W1.obj b y h2
     exact ⟨o, o', (made_old h1).trans e1, e2, e3.mono (wider_le W), e4⟩
   · obtain ⟨h4, t, hS⟩ := h3
     have hlt := sd_lt hS
     have eb : b = u.heap.size + (y - w.heap.size) := by omega
     have hm := made_new (π := π) (u := u) h4 hlt
     rw [<- eb] at hm
     have key : ∀ {kind : Int} {p v : ByteArray} {l r : Option Addr} {d : Int} {s : Bool}, NodeAt nt w' y kind p v l r d s -> (∀ q, l = some q -> ∃ z t', q = ⟨z, 0, none⟩ /\ Sd nt dg R w' t' z) -> (∀ q, r = some q -> ∃ z t', q = ⟨z, 0, none⟩ /\ Sd nt dg R w' t' z) ->
         ∃ o o', (made π u w w').heap[b]? = some o /\ w'.heap[y]? = some o' /\ ORel (wider nt dg R π u w w') o o' /\ Cold b (ice o') (ice o) := by
       rintro kind p v l r d s ⟨fr, e⟩ hl hr
       rw [e] at hm
       refine ⟨_, _, hm, e, ⟨.of_get? (by simp) fun i x x' ex ex' => ?_, rfl⟩, .inl rfl⟩
       rw [Array.getElem?_map, ex'] at ex
       simp only [Option.map_some, Option.some.injEq] at ex
       subst ex
       have hi : i < 7 := by
         have := (Array.getElem?_eq_some_iff.1 ex').1
         simpa [nodeCells] using this
       have hptr : ∀ o : Option Addr, (∀ q, o = some q -> ∃ z t', q = ⟨z, 0, none⟩ /\ Sd nt dg R w' t' z) -> VRel (wider nt dg R π u w w') (backV π u w (.pointer o)) (.pointer o) := fun o ho => by
         cases o with
         | none => exact .pnil
         | some q =>
           obtain ⟨z, t', rfl, hz⟩ := ho q rfl
           exact .pointer ⟨wider_inv hR W hz, rfl, rfl, by rw [h0]; exact Nat.zero_le _⟩
       rcases i with _ | _ | _ | _ | _ | _ | _ | i
       · cases ex'; exact .int _ _
       · cases ex'; exact .string _
       · cases ex'; exact .string _
       · cases ex'; exact hptr l hl
       · cases ex'; exact hptr r hr
       · cases ex'; exact .int _ _
       · cases ex'; exact .bool _
       · omega
     cases t with
     | branch p tl tr =>
       obtain ⟨_, bl, br, g1, g2, g3⟩ := hS
       exact key g1 (fun q e => by cases e; exact ⟨bl, tl, rfl, g2⟩) (fun q e => by cases e; exact ⟨br, tr, rfl, g3⟩)
     | empty => exact key hS.2 (fun q e => by cases e) (fun q e => by cases e)
     | leaf p v => exact key hS.2 (fun q e => by cases e) (fun q e => by cases e)
theorem made_plain (W : WRel π u w) {t : Tr} {y : Nat} (h : Sd nt dg R w' t y) : PlainB (made π u w w') (inv π u w y) := by
 by_cases hy : y < w.heap.size
 · obtain ⟨x, hx, hp⟩ := hR y (by cases t <;> exact h.1) hy
   rw [inv_old W hx]
   intro i v c t f e
   rw [made_old (W.size hx).1] at e
   exact hp i v c t f e
 · have hm := made_new (π := π) (u := u) (Nat.not_lt.1 hy) (sd_lt h)
   have e0 : inv π u w y = u.heap.size + (y - w.heap.size) := by unfold inv; rw [if_neg hy]
   have key : ∀ {kind : Int} {p v : ByteArray} {l r : Option Addr} {d : Int} {s : Bool}, NodeAt nt w' y kind p v l r d s -> PlainB (made π u w w') (inv π u w y) := by
     rintro kind p v l r d s ⟨fr, e⟩ i x c t' f e1 e2
     rw [e0, hm, e] at e1
     cases e1
     rw [Array.getElem?_map] at e2
     have hb : ∀ o : Option Addr, ∃ o', backV π u w (.pointer o) = .pointer o' := fun o => by cases o <;> exact ⟨_, rfl⟩
     rcases i with _ | _ | _ | _ | _ | _ | _ | i
     · cases e2; rintro ⟨_, e⟩; cases e
     · cases e2; rintro ⟨_, e⟩; cases e
     · cases e2; rintro ⟨_, e⟩; cases e
     · obtain ⟨o', eo⟩ := hb l; rw [show (nodeCells kind p v l r d s)[3]? = some (.pointer l) from rfl, Option.map_some, eo] at e2; cases e2; rintro ⟨_, e⟩; cases e
     · obtain ⟨o', eo⟩ := hb r; rw [show (nodeCells kind p v l r d s)[4]? = some (.pointer r) from rfl, Option.map_some, eo] at e2; cases e2; rintro ⟨_, e⟩; cases e
     · cases e2; rintro ⟨_, e⟩; cases e
     · cases e2; rintro ⟨_, e⟩; cases e
     · rw [Array.getElem?_eq_none (by simp [nodeCells])] at e2; cases e2
   cases t with
   | branch p tl tr =>
     obtain ⟨_, bl, br, g1, g2, g3⟩ := h
     exact key g1
   | empty => exact key h.2
   | leaf p v => exact key h.2
theorem sd_made (W' : WRel (wider nt dg R π u w w') (made π u w w') w') (W : WRel π u w) : ∀ {t : Tr} {y : Nat}, Sd nt dg R w' t y -> Sd nt dg (fun _ => True) (made π u w w') t (inv π u w y)
 | .branch _ _ _, y, h => by
   have e := wider_inv hR W h
   have hh := h
   obtain ⟨_, bl, br, h2, h3, h4⟩ := h
   obtain ⟨l', r', h5, hl, hr⟩ := node_left W' (made_plain hR W hh) e h2
   obtain ⟨xl, rfl, el⟩ := optA_ptr' hl
   obtain ⟨xr, rfl, er⟩ := optA_ptr' hr
   have e1 : xl = inv π u w bl := W'.inj _ _ _ el (wider_inv hR W h3)
   have e2 : xr = inv π u w br := W'.inj _ _ _ er (wider_inv hR W h4)
   subst e1 e2
   exact ⟨trivial, _, _, h5, sd_made W' W h3, sd_made W' W h4⟩
 | .empty, y, h => by
   obtain ⟨l', r', h5, hl, hr⟩ := node_left W' (made_plain hR W h) (wider_inv hR W h) h.2
   rw [optA_none' hl, optA_none' hr] at h5
   exact ⟨trivial, h5⟩
 | .leaf _ _, y, h => by
   obtain ⟨l', r', h5, hl, hr⟩ := node_left W' (made_plain hR W h) (wider_inv hR W h) h.2
   rw [optA_none' hl, optA_none' hr] at h5
   exact ⟨trivial, h5⟩
end
end
end Go.Nest
namespace Go.Nest
open Go Go.Conc Go.Eq
open Go.ConcR (DC0)
def Returns (P : Program) (v : Value) (g : Goroutine) : Prop := g.status = .running /\ ∀ w, stepG P true g w = .ended (.done v) w #[]
def EndN (P : Program) (Post : Value -> World -> Prop) : Perm -> Perm -> Goroutine -> World -> Prop := fun _ _ g w => ∃ v, Returns P v g /\ ∀ d, Post v (w.at d)
def mainCfg (o r : Perm) : Cfg := { main := true, own := o, rd := r, deaf := 0, cur := none, pend := false, ub := 0, kids := [], up := none }
theorem script_runs {ty : TypeId} {P : Program} {Post : Value -> World -> Prop} {g : Goroutine} {W : World} {o r : Perm} (ho : ∀ a, o a ∨ r a -> a.block < W.heap.size) (hS : ScS ty P (EndN P Post) .work (mainCfg o r) g W) :
   ∃ N last ou w' t', runNT P (N + 1) (solo g W) #[] = (.ended ou w', t') /\ runN P N (solo g W) = .next last /\ step P last = .ended ou w' /\ Conc.Good P Post last ou w' t' := by
 obtain ⟨n, hS⟩ := hS
 obtain ⟨N, m, t1, h1, gs, g1, w1, sl, q, Wd, own, rd, rfl, h2, h3, ⟨v, hv, hp⟩, hL, hP, -⟩ := nest (ty := ty) (Fin := EndN P Post) (Shun := fun _ => False) (Z := fun _ => False) (q := fun _ => 0) (sl := none) (fun o r g w d ⟨v, h1, h2⟩ => ⟨v, h1, fun d' => h2 d'⟩)
   (gs := #[g]) (g := g) (w := W) (t := #[]) rfl (leavers_one _ _) (past_nil.mono (Nat.zero_le _)) (fun _ h => h.elim) (fun _ h => h.elim) (fun a ha => ⟨ho a ha, fun h => h⟩) hS
 obtain ⟨M, last, ou, w', t', e1, e2, e3, e4⟩ := beside_ends (P := P) (Post := Post) (D := DC0) (sl := sl) (n := 0) (fun w w' es h e he => by rw [h.2] at he; simp at he) h2 hL hP (fun w₁ hw => by
   obtain ⟨d, rfl⟩ := hw
   exact ⟨hv.1, v, #[], hv.2 _, fun e he => by simp at he, hp d⟩)
 refine ⟨N + M, last, ou, w', t', ?_, ?_, e3, e4⟩
 · rw [Nat.add_assoc, runNT_add, solo_eq_crowd, h1]; exact e1
 · rw [runN_add, <- runNT_fst P _ _ #[], solo_eq_crowd, h1]; exact e2
end Go.Nest
namespace Go.Eq
open Go Go.Conc Go.Nest
open Go.ConcN (WgLive)
theorem ev_eq {a : Act} {j : Nat} {v : Value} (h : j < a.tmps.size) : (a.put (some j) v).tmps[j]?.getD undef = v := by
 simp [Act.put, h]
theorem ev_ne {a : Act} {i j : Nat} {v : Value} (h : i ≠ j) : (a.put (some i) v).tmps[j]?.getD undef = a.tmps[j]?.getD undef := by
 simp [Act.put, h]
theorem size_put {a : Act} {d : Option Nat} {v : Value} : (a.put d v).tmps.size = a.tmps.size := by
 cases d <;> simp [Act.put]
theorem defers_put {a : Act} {d : Option Nat} {v : Value} : (a.put d v).defers = a.defers := by
 cases d <;> rfl
theorem eval_tmp (a : Act) (j : Nat) : a.eval (.tmp j) = a.tmps[j]?.getD undef := by
 simp [Act.eval, Array.getD_eq_getD_getElem?]
section
variable [Env] [Runs] {P : Program} {Orc : Oracle} {Stop : Frame -> World -> Prop} {u : World} {b : Frame} {a : Act} {k : List Item} {cs : List Frame} {ops : Array Oper} {i : Nat} {rest : List Nat} {o : Oper}
omit [Env] [Runs] in
theorem wanted_none (h : o.guard = none) (ys : Nat -> Option Bool) : Region.wanted o ys = true := by simp [Region.wanted, h]
theorem LSc.mv (d : Nat) (v : Value) (x : Operand) (hk : b.kind = .normal) (hf : ¬ Runs.orc o) (ho : ops[i]? = some o) (hg : o.guard = none) (hd : o.dst = some d) (hop : o.op = .move x ∨ o.op = .assign x) (hx : a.eval x = v)
   (K : LSc P Orc Stop (G (b.at (a.put (some d) v) (.inRegion ops rest :: k)) cs) u) : LSc P Orc Stop (G (b.at a (.inRegion ops (i :: rest) :: k)) cs) u :=
 LSc.val (v := v) (u' := u) hf ho (wanted_none hg _) (by rw [hk]; decide) (fun t => by rw [<- hx]; rcases hop with e | e <;> simp [execOp, e]) (by rw [hd]; exact K)
theorem LSc.nilc (d : Nat) (x : Operand) (p : Addr) (hk : b.kind = .normal) (hf : ¬ Runs.orc o) (ho : ops[i]? = some o) (hg : o.guard = none) (hd : o.dst = some d) (hop : o.op = .nilCheck x) (hx : a.eval x = .pointer (some p))
   (K : LSc P Orc Stop (G (b.at (a.put (some d) (.pointer (some p))) (.inRegion ops rest :: k)) cs) u) : LSc P Orc Stop (G (b.at a (.inRegion ops (i :: rest) :: k)) cs) u :=
 LSc.val (u' := u) hf ho (wanted_none hg _) (by rw [hk]; decide) (fun t => by unfold execOp; rw [hop]; simp only [hx]; rfl) (by rw [hd]; exact K)
theorem LSc.fld (d : Nat) (x : Operand) (s n : Nat) (p q : Addr) (hk : b.kind = .normal) (hf : ¬ Runs.orc o) (ho : ops[i]? = some o) (hg : o.guard = none) (hd : o.dst = some d) (hop : o.op = .fieldAddr s x n) (hx : a.eval x = .pointer (some p))
   (hr : ∀ w, (Instr.fieldAt s (.pointer (some p)) n).run P w = .ok (.pointer (some q)) w)
   (K : LSc P Orc Stop (G (b.at (a.put (some d) (.pointer (some q))) (.inRegion ops rest :: k)) cs) u) : LSc P Orc Stop (G (b.at a (.inRegion ops (i :: rest) :: k)) cs) u :=
 LSc.val (v := .pointer (some q)) (u' := u) hf ho (wanted_none hg _) (by rw [hk]; decide) (fun t => by simp [execOp, hop, hx, hr, Result.andThen]) (by rw [hd]; exact K)
theorem LSc.ld (d : Nat) (x : Operand) (t : TypeId) (p : Addr) (v : Value) (hk : b.kind = .normal) (hf : ¬ Runs.orc o) (ho : ops[i]? = some o) (hg : o.guard = none) (hd : o.dst = some d) (hop : o.op = .load t x) (hx : a.eval x = .pointer (some p))
   (hr : ∀ t', (Instr.loadAt t (.pointer (some p))).run P (World.on u t') = .ok v (World.on u t'))
   (K : LSc P Orc Stop (G (b.at (a.put (some d) v) (.inRegion ops rest :: k)) cs) u) : LSc P Orc Stop (G (b.at a (.inRegion ops (i :: rest) :: k)) cs) u :=
 LSc.val (v := v) (u' := u) hf ho (wanted_none hg _) (by rw [hk]; decide) (fun t => by simp [execOp, hop, hx, hr, Result.andThen]) (by rw [hd]; exact K)
omit [Env] in
theorem free_code [Env] [Runs] {c : Code} : Free (G (b.at a (.code c :: k)) cs) := fun ops i is k o e => by simp [G, Frame.at] at e
theorem free_item {x : Item} (h : ∀ ops is, x ≠ .inRegion ops is) : Free (G (b.at a (x :: k)) cs) := fun ops i is k' o e => by
 simp only [G, Frame.at, List.cons.injEq] at e
 exact absurd e.1 (h _ _)
omit [Env] [Runs] in
theorem calm_at {t : List Item} : (G (b.at a t) cs).frame.mode = .returning ∨ (G (b.at a t) cs).frame.roundOf ≠ none -> (G (b.at a t) cs).callers ≠ [] := fun e => e.elim (fun e => by cases e) fun e => absurd rfl e
theorem LSc.c_seq {x y : Code} (K : LSc P Orc Stop (G (b.at a (.code x :: .code y :: k)) cs) u) : LSc P Orc Stop (G (b.at a (.code (.seq x y) :: k)) cs) u :=
 LSc.ctl free_code calm_at (fun _ => stepG_seq) (mode_at _ _ _ _) K
theorem LSc.c_cond {c : Operand} {x y : Code} (t : Bool) (h : a.eval c = .bool t) (K : LSc P Orc Stop (G (b.at a (.code (if t then x else y) :: k)) cs) u) : LSc P Orc Stop (G (b.at a (.code (.cond c x y) :: k)) cs) u :=
 LSc.ctl free_code calm_at (fun _ => stepG_cond h) (mode_at _ _ _ _) K
theorem LSc.c_skip (K : LSc P Orc Stop (G (b.at a k) cs) u) : LSc P Orc Stop (G (b.at a (.code .skip :: k)) cs) u :=
 LSc.ctl free_code calm_at (fun _ => stepG_skip) (mode_at _ _ _ _) K
theorem LSc.c_block {id : Nat} {c : Code} (K : LSc P Orc Stop (G (b.at a (.code c :: .inBlock id :: k)) cs) u) : LSc P Orc Stop (G (b.at a (.code (.block id c) :: k)) cs) u :=
 LSc.ctl free_code calm_at (fun _ => stepG_block) (mode_at _ _ _ _) K
theorem LSc.c_inBlock {id : Nat} (K : LSc P Orc Stop (G (b.at a k) cs) u) : LSc P Orc Stop (G (b.at a (.inBlock id :: k)) cs) u :=
 LSc.ctl (free_item (fun _ _ e => by cases e)) calm_at (fun _ => stepG_inBlock) (mode_at _ _ _ _) K
theorem LSc.c_loop {c : Code} (K : LSc P Orc Stop (G (b.at a (.code c :: .inLoop c :: k)) cs) u) : LSc P Orc Stop (G (b.at a (.code (.loop c) :: k)) cs) u :=
 LSc.ctl free_code calm_at (fun _ => stepG_loop) (mode_at _ _ _ _) K
theorem LSc.c_inLoop {c : Code} (K : LSc P Orc Stop (G (b.at a (.code c :: .inLoop c :: k)) cs) u) : LSc P Orc Stop (G (b.at a (.inLoop c :: k)) cs) u :=
 LSc.ctl (free_item (fun _ _ e => by cases e)) calm_at (fun _ => stepG_inLoop) (mode_at _ _ _ _) K
theorem LSc.c_exit {id : Nat} {k' : List Item} (h : exitTo id k = some k') (K : LSc P Orc Stop (G (b.at a k') cs) u) : LSc P Orc Stop (G (b.at a (.code (.exit id) :: k)) cs) u :=
 LSc.ctl free_code calm_at (fun _ => stepG_exit h) (mode_at _ _ _ _) K
theorem LSc.c_region {id : Nat} {ops : Array Oper} (K : LSc P Orc Stop (G (b.at a (.inRegion ops (List.range ops.size) :: k)) cs) u) : LSc P Orc Stop (G (b.at a (.code (.region id ops false) :: k)) cs) u :=
 LSc.ctl free_code calm_at (fun _ => stepG_region) (mode_at _ _ _ _) K
theorem LSc.c_rend {ops : Array Oper} (K : LSc P Orc Stop (G (b.at a k) cs) u) : LSc P Orc Stop (G (b.at a (.inRegion ops [] :: k)) cs) u :=
 LSc.ctl (fun ops i is k o e => by simp [G, Frame.at] at e) calm_at (fun _ => stepG_region_end) (mode_at _ _ _ _) K
theorem LSc.leave {fn : Func} {todo : List Item} {c : Frame} {v : Value} (hn : b.kind = .normal) (hd : a.defers = []) (hf : P.funcs[b.fn]? = some fn) (ht : ∀ ops is k', todo ≠ .inRegion ops is :: k')
   (hr : ∀ w, (results fn a.tmps).run P w = .ok v w) (he : ∀ w, (results fn a.tmps).events P w #[] = #[]) (hm : ∀ ch, (c.finish v).mode ≠ .panicking ch) (K : LSc P Orc Stop (live (c.finish v) cs) u) : LSc P Orc Stop (live { b.at a todo with mode := .returning } (c :: cs)) u := by
 refine LSc.step (fun _ => G (c.finish v) cs) (fun _ => u) (fun ops i is k o e => absurd e (ht _ _ _)) (fun _ => by simp [live]) (fun t => ⟨_, stepG_leave hn hd hf (hr _) (he _)⟩) (fun _ => hm) fun _ => K
theorem LSc.callAt (d : Nat) {f : FuncId} {fn : Func} {cd : Code} {args : Array Operand} {ats : Array TypeId} {Post : Value -> World -> Prop} (hk : b.kind = .normal) (ho : ops[i]? = some o) (hg : o.guard = none) (hd : o.dst = some d) (hop : o.op = .call { callee := .value (.func f), args, argTypes := ats })
   (hf : P.funcs[f]? = some fn) (hn : (fn.name == "runtime.NumGoroutine") = false) (hb : fn.body = some cd) (ha : ∀ x, x ∈ args -> OpdOk x) {vs : Array Value} (hv : args.map a.eval = vs) (hO : Orc f vs u Post)
   (K : ∀ x u', Post x u' -> LSc P Orc Stop (G (b.at (a.put (some d) x) (.inRegion ops rest :: k)) cs) u') : LSc P Orc Stop (G (b.at a (.inRegion ops (i :: rest) :: k)) cs) u := by
 subst hv
 have ee : args.map (b.at a (.inRegion ops (i :: rest) :: k)).eval = args.map a.eval := by rw [Frame.eval_at']
 refine LSc.call (f := f) (args := args) (Post := Post) ⟨rfl, hk, rfl, ⟨ops, i, rest, k, o, ats, fn, cd, rfl, ho, wanted_none hg _, hop, hf, hn, hb⟩, ha⟩ (by rw [ee]; exact hO) fun x u' hp => ?_
 rw [Frame.finish_at, ho, show ((some o).bind fun x => x.dst) = some d from hd]
 exact K x u' hp
theorem LSc.enterAt {f : FuncId} {fn : Func} {cd : Code} {args : Array Operand} {ats : Array TypeId} (hk : b.kind = .normal) (ho : ops[i]? = some o) (hg : o.guard = none) (hop : o.op = .call { callee := .value (.func f), args, argTypes := ats })
   (hf : P.funcs[f]? = some fn) (hn : (fn.name == "runtime.NumGoroutine") = false) (hb : fn.body = some cd) (ha : ∀ x, x ∈ args -> OpdOk x) {vs : Array Value} (hv : args.map a.eval = vs) (hR : Runs.runs f)
   (K : LSc P Orc Stop (live (Frame.enter P f vs .normal) (b.at a (.inRegion ops (i :: rest) :: k) :: cs)) u) : LSc P Orc Stop (G (b.at a (.inRegion ops (i :: rest) :: k)) cs) u := by
 subst hv
 have ee : args.map (b.at a (.inRegion ops (i :: rest) :: k)).eval = args.map a.eval := by rw [Frame.eval_at']
 refine LSc.enter (f := f) (args := args) ⟨rfl, hk, rfl, ⟨ops, i, rest, k, o, ats, fn, cd, rfl, ho, wanted_none hg _, hop, hf, hn, hb⟩, ha⟩ hR ?_
 rw [ee]
 exact K
theorem LSc.retAt {fn : Func} {c : Frame} {v : Value} (hn : b.kind = .normal) (hd : a.defers = []) (hf : P.funcs[b.fn]? = some fn)
   (hr : ∀ w, (results fn a.tmps).run P w = .ok v w) (he : ∀ w, (results fn a.tmps).events P w #[] = #[]) (hm : ∀ v ch, (c.finish v).mode ≠ .panicking ch) (K : LSc P Orc Stop (live (c.finish v) cs) u) : LSc P Orc Stop (G (b.at a (.code .ret :: k)) (c :: cs)) u :=
 LSc.ctl free_code calm_at (fun _ => stepG_ret') (fun ch e => by cases e) (LSc.leave hn hd hf (fun _ _ _ e => by cases e) hr he (hm v) K)
def RunsTo (P : Program) (Orc : Oracle) (Stop : Frame -> World -> Prop) (f : FuncId) (args : Array Value) (u : World) (Post : Value -> World -> Prop) : Prop :=
 ∀ (c : Frame) (cs : List Frame), (∀ v ch, (c.finish v).mode ≠ .panicking ch) -> (∀ x u', Post x u' -> LSc P Orc Stop (live (c.finish x) cs) u') -> LSc P Orc Stop (live (Frame.enter P f args .normal) (c :: cs)) u
end
end Go.Eq
namespace Go.Eq
open Go Go.Conc Go.Nest
def tm (a : Act) (j : Nat) : Value := a.tmps[j]?.getD undef
theorem act_out {a : Act} {n : Nat} (h : a.tmps.size = n) (hd : a.defers = []) : a = ⟨((List.range n).map (tm a)).toArray, []⟩ := by
 cases a with
 | mk t d =>
   simp only at h hd
   subst hd
   congr 1
   refine Array.ext (by simp [h]) fun i h1 h2 => ?_
   simp [tm, Array.getElem?_eq_getElem h1]
theorem tm_eval (a : Act) (j : Nat) : a.eval (.tmp j) = tm a j := by
 simp [Act.eval, tm]
theorem tm_eq {a : Act} {j : Nat} {v : Value} (h : j < a.tmps.size) : tm (a.put (some j) v) j = v := ev_eq h
theorem tm_ne {a : Act} {i j : Nat} {v : Value} (h : i ≠ j) : tm (a.put (some i) v) j = tm a j := ev_ne h
def cL : Code -> Code
 | .seq a _ => a
 | c => c
def cR : Code -> Code
 | .seq _ b => b
 | c => c
def cT : Code -> Code
 | .cond _ a _ => a
 | c => c
def cE : Code -> Code
 | .cond _ _ b => b
 | c => c
def cB : Code -> Code
 | .block _ b => b
 | .loop b => b
 | .scope b => b
 | c => c
def bodyOf (f : Func) : Code := f.body.getD .skip
def orcB (os : List Nat) (o : Oper) : Bool :=
 match o.op with
 | .call c => match c.callee with
   | .value (.func f) => os.contains f
   | _ => false
 | _ => false
def codeO (P : Program) (fns os : List Nat) : Code -> Bool
 | .region _ ops _ => ops.all fun o => orcB os o || operB P true fns o
 | .seq a b => codeO P fns os a && codeO P fns os b
 | .cond c a b => opdB fns c && codeO P fns os a && codeO P fns os b
 | .block _ b | .loop b | .scope b => codeO P fns os b
 | .rangeFunc f k a b => codeB P true true fns (.rangeFunc f k a b)
 | .goto _ => false
 | _ => true
def bodyO (P : Program) (fns os : List Nat) (f : Nat) : Bool :=
 match P.funcs[f]? with
 | some fn => match fn.body with
   | some c => codeO P fns os c
   | none => false
 | none => false
structure Setup [Env] [Runs] (P : Program) (fns outs orcs : List Nat) : Prop where
 env : EnvFor P true true fns
 orc : ∀ o, Runs.orc o ↔ orcB orcs o = true
 runs : ∀ f, Runs.runs f ↔ f ∈ fns ∨ f ∈ outs
@[reducible] def runsOf [Env] (outs orcs : List Nat) : Runs := { runs := fun f => Env.fnOk f ∨ f ∈ outs, orc := fun o => orcB orcs o = true, inc := fun _ h => .inl h }
theorem setup_of {P : Program} {fns outs orcs : List Nat} {low : Nat} : @Setup (envR P fns low) (@runsOf (envR P fns low) outs orcs) P fns outs orcs :=
 @Setup.mk (envR P fns low) (@runsOf (envR P fns low) outs orcs) _ _ _ _ envR_for (fun _ => Iff.rfl) fun _ => Iff.rfl
section
variable [Env] [Runs] {P : Program} {fns outs orcs : List Nat}
theorem codeO_ok (S : Setup P fns outs orcs) : ∀ {c : Code}, codeO P fns orcs c = true -> CodeFit P c
 | .region _ ops _, h => by
   intro i o ho
   simp only [codeO] at h
   rw [Array.all_eq_true'] at h
   have := h o (Array.mem_of_getElem? ho)
   rw [Bool.or_eq_true] at this
   exact this.imp (S.orc o).2 fun h => operB_ok S.env h
 | .seq a b, h => by
   simp only [codeO, Bool.and_eq_true] at h
   exact ⟨codeO_ok S h.1, codeO_ok S h.2⟩
 | .cond c a b, h => by
   simp only [codeO, Bool.and_eq_true] at h
   exact ⟨opdB_ok S.env h.1.1, codeO_ok S h.1.2, codeO_ok S h.2⟩
 | .block _ b, h | .loop b, h | .scope b, h => codeO_ok S (c := b) h
 | .rangeFunc f k a b, h => codeFit_up (codeB_ok S.env (c := .rangeFunc f k a b) h)
 | .goto _, h => by cases h
 | .skip, _ | .label _, _ | .exit _, _ | .ret, _ | .refuse _, _ => trivial
theorem bodies_okO (S : Setup P fns outs orcs) (hb : @BodiesOk _ plainRuns P) (h : outs.all (bodyO P fns orcs) = true) : BodiesOk P := by
 refine ⟨fun f hf => ?_, fun c hc => ?_⟩
 · rcases (S.runs f).1 hf with hf | hf
   · obtain ⟨fn, c, h1, h2, h3⟩ := hb.1 f ((S.env.fn f).2 hf)
     exact ⟨fn, c, h1, h2, codeFit_up h3⟩
   · have h1 := List.all_eq_true.1 h f hf
     unfold bodyO at h1
     split at h1
     · rename_i fn hfn
       split at h1
       · rename_i c hc
         exact ⟨fn, c, hfn, hc, codeO_ok S h1⟩
       · cases h1
     · cases h1
 · obtain ⟨h1, h2⟩ := hb.2 c hc
   exact ⟨codeFit_up h1, h2⟩
theorem Setup.free (S : Setup P fns outs orcs) {o : Oper} (h : orcB orcs o = false) : ¬ Runs.orc o := fun e => by rw [(S.orc o).1 e] at h; cases h
theorem Setup.fit (S : Setup P fns outs orcs) {c : Code} (h : codeB P true true fns c = true) : @CodeFit _ plainRuns P c := codeB_ok S.env h
end
end Go.Eq
namespace Go.Eq
open Go Go.Conc Go.Nest
open Go.ConcN (WgLive)
section
variable [Env] {ty : TypeId}
structure Fw (c0 : Cfg) (π0 : Ren) (w0 : World) (c : Cfg) (π : Ren) (w : World) : Prop where
 le : π0.le π
 own : ∀ a, c0.own a -> c.own a
 size : w0.heap.size <= w.heap.size
 new : ∀ b b', π b = some b' -> π0 b = some b' ∨ w0.heap.size <= b'
 same : ∀ a, c0.own a -> (∀ b, π0 b ≠ some a.block) -> Same a w0 w
 os : w.os = w0.os
 output : w.output = w0.output
omit [Env] in
theorem Fw.refl (c : Cfg) (π : Ren) (w : World) : Fw c π w c π w := ⟨Ren.le_refl π, fun _ h => h, Nat.le_refl _, fun _ _ h => .inl h, fun a _ _ => .refl a w, rfl, rfl⟩
omit [Env] in
theorem Fw.rely {c0 : Cfg} {π0 : Ren} {w0 : World} {c : Cfg} {π : Ren} {w w1 : World} (A : Fw c0 π0 w0 c π w) (hr : Rely ty c w w1) : Fw c0 π0 w0 c π w1 :=
 ⟨A.le, A.own, Nat.le_trans A.size hr.size, A.new, fun a ha hb => (A.same a ha hb).trans (hr.same a (.inl (A.own a ha))), hr.os.trans A.os, hr.output.trans A.output⟩
omit [Env] in
theorem Fw.trans {c0 c1 c2 : Cfg} {π0 π1 π2 : Ren} {w0 w1 w2 : World} (S0 : ∀ a, c0.own a -> a.block < w0.heap.size) (A : Fw c0 π0 w0 c1 π1 w1) (B : Fw c1 π1 w1 c2 π2 w2) : Fw c0 π0 w0 c2 π2 w2 := by
 refine ⟨Ren.le_trans A.le B.le, fun a h => B.own a (A.own a h), Nat.le_trans A.size B.size, fun b b' hb => ?_, fun a ha hb => (A.same a ha hb).trans (B.same a (A.own a ha) fun b e => ?_), B.os.trans A.os, B.output.trans A.output⟩
 · rcases B.new _ _ hb with h | h
   · exact A.new _ _ h
   · exact .inr (Nat.le_trans A.size h)
 · rcases A.new _ _ e with h | h
   · exact hb b h
   · have := S0 a ha; omega
theorem Fw.acr {c0 c : Cfg} {π0 π : Ren} {w0 w : World} (_hs : ∀ b, ¬ Env.sealed b) (A : Acr ty c0 π0 w0 c π w) : Fw c0 π0 w0 c π w :=
 ⟨A.le, A.own, A.size, A.new, fun a ha hb => A.same a (.inl ha) fun b e => absurd e (hb b), A.os, A.output⟩
section
variable [Runs] {P : Program} {FinN : Perm -> Perm -> Goroutine -> World -> Prop} {C : Cfg -> Prop}
def OracleOkF (ty : TypeId) (P : Program) (FinN : Perm -> Perm -> Goroutine -> World -> Prop) (C : Cfg -> Prop) (Orc : Oracle) : Prop :=
 ∀ (c : Cfg) (π : Ren) (u w : World) (f : FuncId) (args args' : Array Value) (Post : Value -> World -> Prop) (b' : Frame) (rr : List Frame), Orc f args u Post -> VsRel π args args' -> WRel π u w -> Held c π -> Snug c w -> C c ->
   (∀ x x' π' u' w' c', Fw c π w c' π' w' -> VRel π' x x' -> WRel π' u' w' -> Held c' π' -> Snug c' w' -> C c' -> Post x u' -> ScS ty P FinN .work c' (Eq.live (b'.finish x') rr) w') ->
   ScS ty P FinN .work c (Eq.live (Frame.enter P f args' .normal) (b' :: rr)) w
omit [Runs] in
theorem calls_okF (hs : ∀ b, ¬ Env.sealed b) (hfit : @BodiesOk _ plainRuns P /\ FnsOk P /\ POk P) (hC : ∀ c own, C c -> C { c with own := own }) : OracleOkF ty P FinN C (CallsOrc P) := by
 intro c π u w f args args' Post b' rr hQ hx W H S hc K
 obtain ⟨h1, h2, h3⟩ := hQ
 letI : Runs := plainRuns
 refine bridge (fun _ h => h) hfit.2.2 hfit.2.1 hfit.1 h1 hx W H S h2 h3 fun v v' π' u' w' c' A hv W' H' S' hp => ?_
 exact K v v' π' u' w' c' (Fw.acr hs A) hv W' H' S' (by rw [A.cfg]; exact hC c _ hc) hp
omit [Runs] in
theorem or_okF {O O' : Oracle} (h : OracleOkF ty P FinN C O) (h' : OracleOkF ty P FinN C O') : OracleOkF ty P FinN C (OrOrc O O') := by
 intro c π u w f args args' Post b' rr hQ
 exact hQ.elim (h c π u w f args args' Post b' rr) (h' c π u w f args args' Post b' rr)
theorem LSc.scriptF {Orc : Oracle} {Stop : Frame -> World -> Prop} (hs : ∀ b, ¬ Env.sealed b) (ok : POk P) (hf : FnsOk P) (hb : BodiesOk P) (hb0 : @BodiesOk _ plainRuns P) (hO : OracleOkF ty P FinN C Orc)
   (hC : ∀ c own, C c -> C { c with own := own }) {c00 : Cfg} {π00 : Ren} {w00 : World} (S00 : ∀ a, c00.own a -> a.block < w00.heap.size)
   (hfin : ∀ (π : Ren) f f' u w c, FrRel P π f f' -> Stop f u -> WRel π u w -> Held c π -> Snug c w -> C c -> Fw c00 π00 w00 c π w -> ScS ty P FinN .work c (Eq.live f' []) w) {g : Goroutine} {u : World} (h : LSc P Orc Stop g u) :
   ∀ (π : Ren) (g' : Goroutine) (w : World) (c : Cfg), GRel P π [] [] g g' -> WRel π u w -> Held c π -> Snug c w -> C c -> Fw c00 π00 w00 c π w -> ScS ty P FinN .work c g' w := by
 induction h with
 | @done f u hg =>
   intro π g' w c hr W H S hc hF
   obtain ⟨f1, f', cs, cs', e, rfl, h1, h2⟩ := hr
   have e1 : f = f1 := congrArg Goroutine.frame e
   have e2 : cs = [] := (congrArg Goroutine.callers e).symm
   subst e1 e2
   cases h2
   exact hfin π _ _ u w c h1 hg W H S hc hF
 | @step g u g1 u1 hfree hcs hst hm _ ih =>
   intro π g' w c hg W H S hc hF
   have hg0 := hg
   obtain ⟨f, f', cs, cs', rfl, rfl, hfr, hfs⟩ := hg
   refine ScS.ord rfl rfl rfl fun w₁ hr => ?_
   have W1 := W.held H hr
   have S1 := S.rely hr
   have hS := step_rel0 (m0 := true) (m := c.main) (l := true) ok hf hb hg0 hfree hcs (W1.on (shift u w₁) w₁.tape) (tapes_shift u w₁)
   obtain ⟨es1, hst1⟩ := hst (shift u w₁)
   rw [hst1] at hS
   rcases hS with ⟨ch, e⟩ | ⟨g1', w2, π1, gs, es, hst2, hes, hrel, W2, -, E⟩
   · exact absurd e (hm _ ch)
   · have E' : Eff π π1 w₁ w2 gs := E
     have W3 : WRel π1 (u1 (shift u w₁)) w2 := W2.on (u1 (shift u w₁)).tape w2.tape
     obtain ⟨O, H2, S2⟩ := ord_of_eff (ty := ty) (es := es) H S1 E' (fun e he => by simpa using hes e he) W2
     have hF2 : Fw c00 π00 w00 (grown c w₁ w2) π1 w2 := (hF.rely hr).trans S00 (Fw.acr hs ((Acr.refl (ty := ty) c π w₁).eff S1 H S1 E'))
     exact ⟨_, _, _, _, hst2, O, ih (shift u w₁) π1 g1' w2 _ hrel W3 H2 S2 (hC _ _ hc) hF2⟩
 | @norm b a c k cs u Q hfc hwp hQt _ ih =>
   intro π g' w c0 hr W H S hc hF
   obtain ⟨f1, f', cs1, cs', e, rfl, hfr, hfs⟩ := hr
   have e1 : b.at a (.code c :: k) = f1 := congrArg Goroutine.frame e
   have e2 : cs = cs1 := congrArg Goroutine.callers e
   subst e1 e2
   have ht' : f'.todo = .code c :: k.map (rnI π) := hfr.todo
   have hro' : f'.roundOf = none := round_none hfr.round rfl
   have hdk : ∀ x, x ∈ k -> LoopOk π x := fun x hx => hfr.dom x (List.mem_cons_of_mem _ hx)
   have hf' : f' = ext (k.map (rnI π)) { f' with todo := [.code c] } := by
     cases f'
     simp only [ext] at ht' ⊢
     simp [ht']
   rw [hf']
   refine @piece_norm P (k.map (rnI π)) cs' _ plainRuns ty FinN c0 π w (fun _ h => h) ok hf hb0 S (fun fr u => ∃ a', fr = b.at a' stopK /\ Q a' u) (fun fr u t ⟨a', h1, h2⟩ => ⟨a', h1, hQt _ _ _ h2⟩) ?_ (b.at a [.code c]) _ u hro' (piece_frame hfr hfc) W H ?_
   · rintro f2 f2' π1 u1 w1 c1 ⟨-, hm2, ht2⟩ ⟨a1, e3, hq⟩ h2 A W1 H1 S1
     have ht0 : f2.todo = [] := by
       have : f2.todo ++ stopK = [] ++ stopK := ht2
       exact List.append_cancel_right this
     have e4 : f2 = b.at a1 [] := by
       cases f2
       simp only [ext] at ht0 e3 ⊢
       subst ht0
       simp only [Frame.at, stopK, List.nil_append, Frame.mk.injEq] at e3 ⊢
       simp [e3]
     subst e4
     exact ih a1 u1 hq π1 _ w1 c1 ⟨_, _, _, _, rfl, rfl, frRel_up h2 (map_mono A.le hdk).symm (fun x hx => (hdk x hx).mono A.le) fun x hx => hfr.fit x (List.mem_cons_of_mem _ hx), hfs.mono A.le⟩ W1 H1 S1 (by rw [A.cfg]; exact hC _ _ hc) (hF.trans S00 (Fw.acr hs A))
   · intro t
     obtain ⟨e5, a', w', hq, har⟩ := hwp t b stopK [door P]
     cases e5 <;> first | exact hq.elim | skip
     obtain ⟨n, hn⟩ := har
     exact ⟨t, fun _ _ _ => rfl, n, live (b.at a' stopK) [door P], w', hn, ⟨rfl, rfl, rfl⟩, a', rfl, hq⟩
 | @last b a c k cs u Q hQd hfc hwp hQt _ ih =>
   intro π g' w c0 hr W H S hc hF
   obtain ⟨f1, f', cs1, cs', e, rfl, hfr, hfs⟩ := hr
   have e1 : b.at a (.code c :: k) = f1 := congrArg Goroutine.frame e
   have e2 : cs = cs1 := congrArg Goroutine.callers e
   subst e1 e2
   have ht' : f'.todo = .code c :: k.map (rnI π) := hfr.todo
   have hro' : f'.roundOf = none := round_none hfr.round rfl
   have hdk : ∀ x, x ∈ k -> LoopOk π x := fun x hx => hfr.dom x (List.mem_cons_of_mem _ hx)
   have hf' : f' = ext (k.map (rnI π)) { f' with todo := [.code c] } := by
     cases f'
     simp only [ext] at ht' ⊢
     simp [ht']
   rw [hf']
   refine @piece_ret P (k.map (rnI π)) cs' _ plainRuns ty FinN c0 π w (fun _ h => h) ok hf hb0 S (fun fr u => ∃ a' todo, fr = { b.at a' todo with mode := .returning } /\ Q a' u) (fun fr u t ⟨a', todo, h1, h2⟩ => ⟨a', todo, h1, hQt _ _ _ h2⟩) ?_ (b.at a [.code c]) _ u hro' (piece_frame hfr hfc) W H ?_
   · rintro f2 f2' π1 u1 w1 c1 - ⟨a1, todo, e3, hq⟩ h2 A W1 H1 S1
     have e4 : f2 = { b.at a1 f2.todo with mode := .returning } := by
       cases f2
       simp only [ext] at e3 ⊢
       simp only [Frame.at, Frame.mk.injEq] at e3 ⊢
       simp [e3]
     generalize f2.todo = td at e4
     subst e4
     exact ih a1 u1 (td ++ k) hq π1 _ w1 c1 ⟨_, _, _, _, rfl, rfl, frRel_up h2 (map_mono A.le hdk).symm (fun x hx => (hdk x hx).mono A.le) fun x hx => hfr.fit x (List.mem_cons_of_mem _ hx), hfs.mono A.le⟩ W1 H1 S1 (by rw [A.cfg]; exact hC _ _ hc) (hF.trans S00 (Fw.acr hs A))
   · intro t
     obtain ⟨e5, a', w', hq, har⟩ := hwp t b stopK [door P]
     cases e5 <;> first | exact hq.elim | skip
     obtain ⟨todo, n, hn⟩ := har
     exact ⟨t, fun _ _ _ => rfl, n, live { b.at a' todo with mode := .returning } [door P], w', hn, ⟨rfl, rfl, hQd _ _ hq⟩, a', todo, rfl, hq⟩
 | @enter fr cs u f args hA hR _ ih =>
   intro π g' w c hr W H S hc hF
   obtain ⟨f1, f', cs1, cs', e, rfl, hfr, hfs⟩ := hr
   have e1 : fr = f1 := congrArg Goroutine.frame e
   have e2 : cs = cs1 := congrArg Goroutine.callers e
   subst e1 e2
   exact enter_sc hfr hA S (ih π _ w c ⟨_, _, _, _, rfl, rfl, FrRel.enter hb hR (args_rel hfr hA.args), .cons hfr hfs⟩ W H S hc hF)
 | @call fr cs u f args Post hA hQ _ ih =>
   intro π g' w c hr W H S hc hF
   obtain ⟨f1, f', cs1, cs', e, rfl, hfr, hfs⟩ := hr
   have e1 : fr = f1 := congrArg Goroutine.frame e
   have e2 : cs = cs1 := congrArg Goroutine.callers e
   subst e1 e2
   refine enter_sc hfr hA S (hO c π u w f _ _ Post f' cs' hQ (args_rel hfr hA.args) W H S hc fun x x' π' u' w' c' A hx W' H' S' hc' hp => ?_)
   exact ih x u' hp π' _ w' c' ⟨_, _, _, _, rfl, rfl, (hfr.mono A.le).finish hx, hfs.mono A.le⟩ W' H' S' hc' (hF.trans S00 A)
end
end
end Go.Eq
namespace Go.Eq
open Go Go.Conc Go.Nest
section
variable [Env]
theorem junk_only {π : Ren} {x w' : Value} (h : VRel π (junkV x) w') : w' = x := by
 cases h with
 | @func f f' _ _ _ _ h1 => cases f' <;> exact h1.elim
 | junk _ => rfl
theorem blur_ex : ∀ (v' : Value), ∃ v, (∀ π, VRel π v v') /\ ∀ π w', VRel π v w' -> w' = v'
 | .bool b => ⟨.bool b, fun _ => .bool b, fun _ w' h => by cases h; rfl⟩
 | .nilIface => ⟨.nilIface, fun _ => .nilIface, fun _ w' h => by cases h; rfl⟩
 | .agg c => by
   have ih : ∀ i (hi : i < c.size), ∃ v, (∀ π, VRel π v c[i]) /\ ∀ π w', VRel π v w' -> w' = c[i] := fun i hi =>
     have : SizeOf.sizeOf c[i] < SizeOf.sizeOf c := Array.sizeOf_getElem c i hi
     blur_ex c[i]
   refine ⟨.agg (Array.ofFn fun i : _root_.Fin c.size => (ih i i.2).choose), fun π => .agg (by simp) fun i hi => ?_, fun π w' h => ?_⟩
   · have hi' : i < c.size := by simpa using hi
     have := (ih i hi').choose_spec.1 π
     simpa [Array.getD, hi'] using this
   · cases h with
     | @agg _ c' e h =>
       have e' : c.size = c'.size := by simpa using e
       congr 1
       refine Array.ext e'.symm fun i h1 h2 => ?_
       have h3 := h i (by simpa using h2)
       have h4 : VRel π (ih i h2).choose c'[i] := by simpa [Array.getD, h1, h2] using h3
       exact (ih i h2).choose_spec.2 π _ h4
 | .tuple c => by
   have ih : ∀ i (hi : i < c.size), ∃ v, (∀ π, VRel π v c[i]) /\ ∀ π w', VRel π v w' -> w' = c[i] := fun i hi =>
     have : SizeOf.sizeOf c[i] < SizeOf.sizeOf c := Array.sizeOf_getElem c i hi
     blur_ex c[i]
   refine ⟨.tuple (Array.ofFn fun i : _root_.Fin c.size => (ih i i.2).choose), fun π => .tuple (by simp) fun i hi => ?_, fun π w' h => ?_⟩
   · have hi' : i < c.size := by simpa using hi
     have := (ih i hi').choose_spec.1 π
     simpa [Array.getD, hi'] using this
   · cases h with
     | @tuple _ c' e h =>
       have e' : c.size = c'.size := by simpa using e
       congr 1
       refine Array.ext e'.symm fun i h1 h2 => ?_
       have h3 := h i (by simpa using h2)
       have h4 : VRel π (ih i h2).choose c'[i] := by simpa [Array.getD, h1, h2] using h3
       exact (ih i h2).choose_spec.2 π _ h4
 | .int k n => ⟨junkV (.int k n), fun _ => .junk trivial, fun _ _ h => junk_only h⟩
 | .float k n => ⟨junkV (.float k n), fun _ => .junk trivial, fun _ _ h => junk_only h⟩
 | .complex k n m => ⟨junkV (.complex k n m), fun _ => .junk trivial, fun _ _ h => junk_only h⟩
 | .string s => ⟨junkV (.string s), fun _ => .junk trivial, fun _ _ h => junk_only h⟩
 | .pointer a => ⟨junkV (.pointer a), fun _ => .junk trivial, fun _ _ h => junk_only h⟩
 | .slice a n m => ⟨junkV (.slice a n m), fun _ => .junk trivial, fun _ _ h => junk_only h⟩
 | .map r => ⟨junkV (.map r), fun _ => .junk trivial, fun _ _ h => junk_only h⟩
 | .chan r => ⟨junkV (.chan r), fun _ => .junk trivial, fun _ _ h => junk_only h⟩
 | .func f x c => ⟨junkV (.func f x c), fun _ => .junk trivial, fun _ _ h => junk_only h⟩
 | .nilFunc => ⟨junkV .nilFunc, fun _ => .junk trivial, fun _ _ h => junk_only h⟩
 | .iface t v => ⟨junkV (.iface t v), fun _ => .junk trivial, fun _ _ h => junk_only h⟩
termination_by v' => SizeOf.sizeOf v'
theorem start_rel {W : World} {b : Nat} {c : Array Value} {t : TypeId} {f : Nat × Nat} (h0 : Env.low = 0) (hs : ∀ b, ¬ Env.sealed b) (hb : W.heap[b]? = some (.cells c t f)) (lo hi : Nat)
   (hv : ∀ (i : Nat) v, lo <= i -> i < hi -> c[i]? = some v -> (∀ π, VRel π v v) /\ ∀ π w', VRel π v w' -> w' = v) :
   ∃ d : Array Value, d.size = c.size /\ (∀ i : Nat, lo <= i -> i < hi -> d[i]? = c[i]?) /\ WRel (fun x => if x = b then some b else none) { W with heap := W.heap.setIfInBounds b (.cells d t f) } W /\ ∀ π c', VsRel π d c' -> c' = c := by
 classical
 have hd : ∀ i (hi' : i < c.size), (∀ π, VRel π (if lo <= i /\ i < hi then c[i] else (blur_ex c[i]).choose) c[i]) /\ ∀ π w', VRel π (if lo <= i /\ i < hi then c[i] else (blur_ex c[i]).choose) w' -> w' = c[i] := by
   intro i hi'
   split
   · rename_i h; exact hv i _ h.1 h.2 (Array.getElem?_eq_getElem hi')
   · exact (blur_ex c[i]).choose_spec
 refine ⟨Array.ofFn fun i : _root_.Fin c.size => if lo <= i.1 /\ i.1 < hi then c[i.1] else (blur_ex c[i.1]).choose, by simp, fun i h1 h2 => ?_, ⟨fun x y z h k => ?_, fun x y h => ?_, rfl, fun x h => absurd h (hs x), fun x h => absurd (h0 ▸ h) (Nat.not_lt_zero x), fun x _ _ _ h => absurd h (hs x)⟩, fun π c' h => ?_⟩
 · by_cases hi' : i < c.size
   · simp [hi', h1, h2]
   · rw [Array.getElem?_eq_none (by simpa using hi'), Array.getElem?_eq_none (by omega)]
 · split at h <;> first | (cases h; done) | skip
   split at k <;> first | (cases k; done) | skip
   simp_all
 · split at h
   · rename_i e
     cases h
     subst e
     have hlt : x < W.heap.size := (Array.getElem?_eq_some_iff.1 hb).1
     refine ⟨.cells _ t f, _, Array.getElem?_setIfInBounds_self_of_lt hlt, hb, ⟨⟨by simp, fun i hi' => ?_⟩, rfl⟩, .inl rfl⟩
     have hi2 : i < c.size := by simpa using hi'
     have := (hd i hi2).1 fun z => if z = x then some x else none
     simpa [Array.getD, hi2] using this
   · cases h
 · have e' : c.size = c'.size := by simpa using h.1
   refine Array.ext e'.symm fun i h1 h2 => ?_
   have h3 := h.2 i (by simpa using h2)
   have h4 : VRel π (if lo <= i /\ i < hi then c[i] else (blur_ex c[i]).choose) c'[i] := by simpa [Array.getD, h1, h2] using h3
   exact (hd i h2).2 π _ h4
theorem end_same {π : Ren} {u' w : World} {b : Nat} {c d : Array Value} {t : TypeId} {f : Nat × Nat} (hs : ∀ b, ¬ Env.sealed b) (W' : WRel π u' w) (he : π b = some b) (hu : u'.heap[b]? = some (.cells d t f)) (hd : ∀ π c', VsRel π d c' -> c' = c) : w.heap[b]? = some (.cells c t f) := by
 obtain ⟨o, o', e1, e2, ho, hc⟩ := W'.obj _ _ he
 rw [hu] at e1
 cases e1
 cases o' <;> first | exact ho.elim | skip
 obtain ⟨h1, rfl⟩ := ho
 rcases hc with hc | ⟨h, -⟩
 · have := hd _ _ h1
   subst this
   simp only [ice] at hc
   subst hc
   exact e2
 · exact absurd h (hs _)
end
theorem same_block {w w' : World} {b : Nat} (h : ∀ a : Addr, a.block = b -> Same a w w') : w'.heap[b]? = w.heap[b]? := by
 have h0 := h ⟨b, 0, none⟩ rfl
 by_cases hc : ∃ c t f, w.heap[b]? = some (.cells c t f)
 · obtain ⟨c, t, f, hh⟩ := hc
   obtain ⟨f', e⟩ := row_same hh h
   have hp := h0.pair
   simp only [frost, hh, e] at hp
   rw [e, hh, hp]
 · refine h0.obj ?_
   simp only [World.shape?]
   split
   · exact absurd ⟨_, _, _, by assumption⟩ hc
   · rfl
end Go.Eq
namespace Go.Nest
open Go Go.Conc Go.Eq Go.RowKit
theorem returns_of {P : Program} {f' : Frame} {fn : Func} {v : Value} (hm : f'.mode = .returning) (hd : f'.defers = []) (hk : f'.kind = .normal) (hf : P.funcs[f'.fn]? = some fn) (hr : results fn f'.tmps = .pure v) (hi : P.inits.idxOf? f'.fn = none) : Returns P v (Eq.live f' []) := by
 refine ⟨rfl, fun w => ?_⟩
 unfold Eq.live stepG unwind
 simp only [hm, hd, hf, hr]
 simp [Sem.runT, GStep.after, seen, doReturn, hk, hi]
@[reducible] def allCfg (W : World) : Cfg := mainCfg (fun a => a.block < W.heap.size) (fun _ => False)
theorem snug_all (W : World) : Snug (allCfg W) W := ⟨fun a h => h.elim id False.elim, fun z h => absurd h (by simp [mainCfg]), fun z v h => absurd h (by simp [mainCfg])⟩
theorem fw_below [Env] {W w : World} {c : Cfg} {π0 π : Ren} (h : Fw (allCfg W) π0 W c π w) (hk : ∀ k x, π0 x = some k -> k < W.heap.size -> w.heap[k]? = W.heap[k]?) : Below W.heap.size W.blind w.blind := by
 refine ⟨h.os, rfl, h.output, h.size, fun k hlt => ?_⟩
 by_cases hx : ∃ x, π0 x = some k
 · obtain ⟨x, hx⟩ := hx
   exact hk k x hx hlt
 · exact same_block (w := W) (w' := w) fun a ha => h.same a (show a.block < W.heap.size by rw [ha]; exact hlt) fun b e => hx ⟨b, by rw [e, ha]⟩
end Go.Nest
