/- A go statement; the whole: from the first goroutine's script to where it is wanted, on every tape. -/
import Derived.Test.YtddcbeeldjjmeaaGreatPart2
import Derived.StepT
import Derived.Runnable
import Derived.Laws.Sem
import GoSem.Dispatch
namespace Go.Nest
open Go Go.Conc
open Go.ConcR (KK WgAt wgBlock stA smA wr mk)
open Go.ConcN (WgLive sumTo upd sumTo_upd upd_ne upd_same sumTo_congr)
section
variable {ty : TypeId} {P : Program} {Fin : Perm -> Perm -> Goroutine -> World -> Prop} {Shun : Go.Loc -> Prop} {lo : Nat} {Z : Nat -> Prop} {w₀ : World} {G G' : Ghost} {gs : Array Goroutine} {t u : Trace} {w w' : World}
theorem deaf_fork {t : Trace} {x y : MemOp} {k : Nat} (hx : x.act = .go k) (hy : y.act = .start) (j : Nat) : Deaf (t ++ #[x, y]) j = Deaf t j := by
 have e : t ++ #[x, y] = (t ++ #[x]) ++ #[y] := by apply Array.ext'; simp
 rw [e, Deaf_push, Deaf_push]
 unfold deafStep
 rw [hx, hy]
theorem step_go (I : Inv ty P Fin Shun lo Z w₀ G gs w t) {i : Nat} {ι : Type} {f : ι -> Tree} {m n : ι} {c : Cfg} {g g' child : Goroutine} {z : Nat} {o r o' r' : Perm} {v : Vow} {sl : Option (Nat × Nat)} (hi : gs[i]? = some g) (hr : G.role i = .act (.node ι f) .work c) (hp : c.pend = true) (hd : c.deaf = 0) (hlen : c.kids.length < 1000) (hz : c.cur = some z)
   (hgo : stepG P c.main g w = .spawn g' child w #[]) (ho : ∀ a, o a -> c.own a) (ho' : ∀ a, o' a -> c.own a /\ ¬ o a /\ ¬ r a) (hrr : ∀ a, r a -> (c.own a ∨ c.rd a) /\ ¬ o' a) (hr' : ∀ a, r' a -> (c.own a ∨ c.rd a) /\ ¬ o a)
   (hc : Script ty P Fin (f m) .work { main := false, own := o, rd := r, deaf := 0, cur := none, pend := false, ub := 0, kids := [], up := some (z, v) } child w)
   (hs' : Script ty P Fin (f n) .work { c with own := o', rd := r', pend := false, ub := c.ub + 1, kids := v :: c.kids } g' w) : Goal ty P Fin Shun lo Z w₀ G gs w t sl i := by
 obtain ⟨hlt, hl⟩ := I.here hi
 rw [hr] at hl
 obtain ⟨_, hmain, hdeaf, hup0, hH⟩ := hl
 simp only [Stg.early, if_true] at hH
 obtain ⟨hH, hown, hrd⟩ := hH
 have hHs : (G.H i).isSome = true := by rw [hH]; rfl
 obtain ⟨g1, g2, g3, g4, g5⟩ := I.open (c := c) (s := .work) hlt (by rw [hr]; rfl) (by rw [hr]; rfl) hz
 rw [hmain] at hgo
 obtain ⟨hdN, hHN⟩ := I.above gs.size (Nat.le_refl _)
 have hiN : i ≠ gs.size := by omega
 let cc : Cfg := { main := false, own := o, rd := r, deaf := 0, cur := none, pend := false, ub := 0, kids := [], up := some (z, v) }
 let c' : Cfg := { c with own := o', rd := r', pend := false, ub := c.ub + 1, kids := v :: c.kids }
 let G' : Ghost := { role := fun j => if j = i then .act (f n) .work c' else if j = gs.size then .act (f m) .work cc else G.role j, H := upd G.H gs.size (some (.live gs.size)), own := upd (upd G.own i o') gs.size o, rd := upd (upd G.rd i r') gs.size r, W := G.W, par := upd G.par gs.size i, kids := upd G.kids i (gs.size :: G.kids i) }
 have ri : G'.role i = .act (f n) .work c' := if_pos rfl
 have rN : G'.role gs.size = .act (f m) .work cc := by simp [G', Ne.symm hiN]
 have rj : ∀ j, j ≠ i -> j ≠ gs.size -> G'.role j = G.role j := fun j h1 h2 => by simp [G', h1, h2]
 have HN : G'.H gs.size = some (.live gs.size) := upd_same _ _ _
 have Hj : ∀ j, j ≠ gs.size -> G'.H j = G.H j := fun j h => upd_ne _ _ h
 have oi : G'.own i = o' /\ G'.rd i = r' := ⟨by show upd (upd G.own i o') gs.size o i = o'; rw [upd_ne _ _ hiN, upd_same], by show upd (upd G.rd i r') gs.size r i = r'; rw [upd_ne _ _ hiN, upd_same]⟩
 have oN : G'.own gs.size = o /\ G'.rd gs.size = r := ⟨upd_same _ _ _, upd_same _ _ _⟩
 have oj : ∀ j, j ≠ i -> j ≠ gs.size -> G'.own j = G.own j /\ G'.rd j = G.rd j := fun j h1 h2 => ⟨by show upd (upd G.own i o') gs.size o j = _; rw [upd_ne _ _ h2, upd_ne _ _ h1], by show upd (upd G.rd i r') gs.size r j = _; rw [upd_ne _ _ h2, upd_ne _ _ h1]⟩
 have kidLt : ∀ p k, k ∈ G.kids p -> k < gs.size := fun p k hk => by
   obtain ⟨_, _, _, _, _, _, _, _, _, _, _, x⟩ := I.parent hk
   exact x.2.1
 have ksi : (G'.role i).ks = (G.role i).ks := by rw [ri, hr]; rfl
 have kids_i : G'.kids i = gs.size :: G.kids i := upd_same _ _ _
 have kids_j : ∀ j, j ≠ i -> G'.kids j = G.kids j := fun j h => upd_ne _ _ h
 have par_j : ∀ j, j ≠ gs.size -> G'.par j = G.par j := fun j h => upd_ne _ _ h
 have ks_old : ∀ k, k < gs.size -> (G'.role k).ks = (G.role k).ks := fun k hk => by
   by_cases e : k = i
   · rw [e]; exact ksi
   · rw [rj k e (by omega)]
 -- what a holder holds it held, or i did
 have from_ : ∀ j a, (G'.H j).isSome = true -> (G'.own j a -> ∃ k, (k = j ∨ k = i) /\ (G.H k).isSome = true /\ G.own k a) /\ (G'.rd j a -> ∃ k, (k = j ∨ k = i) /\ (G.H k).isSome = true /\ (G.own k a ∨ G.rd k a)) := by
   intro j a hj
   by_cases e : j = i
   · subst e
     rw [oi.1, oi.2]
     exact ⟨fun h => ⟨j, .inl rfl, hHs, by rw [hown]; exact (ho' a h).1⟩, fun h => ⟨j, .inl rfl, hHs, by rw [hown, hrd]; exact (hr' a h).1⟩⟩
   · by_cases e2 : j = gs.size
     · subst e2
       rw [oN.1, oN.2]
       exact ⟨fun h => ⟨i, .inr rfl, hHs, by rw [hown]; exact ho a h⟩, fun h => ⟨i, .inr rfl, hHs, by rw [hown, hrd]; exact (hrr a h).1⟩⟩
     · rw [(oj j e e2).1, (oj j e e2).2]
       rw [Hj j e2] at hj
       exact ⟨fun h => ⟨j, .inl rfl, hj, h⟩, fun h => ⟨j, .inl rfl, hj, .inr h⟩⟩
 let x : MemOp := { g := i, fn := g.frame.fn, pos := g.frame.place, act := .go gs.size }
 let y : MemOp := { g := gs.size, fn := child.frame.fn, pos := g.frame.place, act := .start }
 have hops : ((MemOp.ofEvents i g.frame.fn g.frame.place #[]).push x).push y = #[x, y] := by simp [ofEvents_eq]
 have hrun := runT_crowd_spawn (P := P) (sl := sl) (i := i) hi hgo
 have hsz : ((gs.setIfInBounds i g').push child).size = gs.size + 1 := by simp
 have dj : ∀ j, Deaf (t ++ #[x, y]) j = Deaf t j := fun j => deaf_fork (k := gs.size) rfl rfl j
 refine ⟨G', _, w, #[x, y], by rw [hrun]; exact congrArg (Prod.mk _) hops, ?_, ?_⟩
 · rw [hsz]
   refine Prod.Lex.left _ _ ?_
   obtain ⟨r, p1, p2⟩ := MS_split (G := G) (G' := G') hlt fun j hj hjN => by rw [rj j hj (by omega)]
   rw [hr] at p1
   rw [ri] at p2
   refine ⟨.node ι f, r, [f m, f n], p1, ?_, fun y hy => ?_⟩
   · show ((G'.role gs.size).tree?.toList ++ MS G' gs.size).Perm _
     rw [rN]
     exact p2.cons (f m)
   · simp only [List.mem_cons, List.not_mem_nil, or_false] at hy
     rcases hy with rfl | rfl <;> exact Tree.lt_node _
 refine ⟨⟨I.base.size, I.base.os, I.base.tape, I.base.output, I.base.groups, fun j a hj h => ?_, I.base.zlow, I.base.shun⟩, ?_, I.dull.quiet fun op hop => ?_, ?_, fun j hj => ?_, fun j hj => ?_, by rw [hsz]; omega, fun p hpp => ?_, fun p hpp => ?_, fun k hk0 hk => ?_⟩
 · obtain ⟨f1, f2⟩ := from_ j a hj
   rcases h with h | h
   · obtain ⟨k, _, hks, hk⟩ := f1 h
     exact I.base.low k a hks (.inl hk)
   · obtain ⟨k, _, hks, hk⟩ := f2 h
     exact I.base.low k a hks hk
 · refine I.ti.spawn (p := i) (c := gs.size) hH hHN ⟨rfl, rfl⟩ ⟨rfl, rfl⟩ (by rw [hdeaf, hd]) hdN Hj HN (fun j a h => ?_) (fun j a h => ?_)
   · by_cases e2 : j = gs.size
     · subst e2; rw [oN.1] at h; exact .inl ⟨rfl, by rw [hown]; exact ho a h⟩
     · refine .inr ⟨e2, ?_⟩
       by_cases e : j = i
       · subst e; rw [oi.1] at h; rw [hown]; exact (ho' a h).1
       · rw [(oj j e e2).1] at h; exact h
   · by_cases e2 : j = gs.size
     · subst e2; rw [oN.2] at h; exact .inl ⟨rfl, by rw [hown, hrd]; exact (hrr a h).1⟩
     · refine .inr ⟨e2, ?_⟩
       by_cases e : j = i
       · subst e; rw [oi.2] at h; rw [hown, hrd]; exact (hr' a h).1
       · rw [(oj j e e2).2] at h; exact .inr h
 · simp only [List.mem_toArray, List.mem_cons, List.not_mem_nil, or_false] at hop
   rcases hop with rfl | rfl <;> rfl
 · intro j k a hjk hj hk h
   -- i against its child, and each against the others
   by_cases j1 : j = i
   · subst j1
     rw [oi.1] at h
     by_cases k2 : k = gs.size
     · subst k2; rw [oN.1, oN.2]; exact (ho' a h).2
     · rw [Hj k k2] at hk
       rw [(oj k (Ne.symm hjk) k2).1, (oj k (Ne.symm hjk) k2).2]
       exact I.sep j k a hjk hHs hk (by rw [hown]; exact (ho' a h).1)
   · by_cases j2 : j = gs.size
     · subst j2
       rw [oN.1] at h
       by_cases k1 : k = i
       · subst k1; rw [oi.1, oi.2]; exact ⟨fun q => (ho' a q).2.1 h, fun q => (hr' a q).2 h⟩
       · rw [Hj k (Ne.symm hjk)] at hk
         rw [(oj k k1 (Ne.symm hjk)).1, (oj k k1 (Ne.symm hjk)).2]
         exact I.sep i k a (Ne.symm k1) hHs hk (by rw [hown]; exact ho a h)
     · rw [Hj j j2] at hj
       rw [(oj j j1 j2).1] at h
       have hs := I.sep j i a j1 hj hHs h
       rw [hown, hrd] at hs
       by_cases k1 : k = i
       · subst k1
         rw [oi.1, oi.2]
         exact ⟨fun q => hs.1 (ho' a q).1, fun q => (hr' a q).1.elim hs.1 hs.2⟩
       · by_cases k2 : k = gs.size
         · subst k2
           rw [oN.1, oN.2]
           exact ⟨fun q => hs.1 (ho a q), fun q => (hrr a q).1.elim hs.1 hs.2⟩
         · rw [Hj k k2] at hk
           rw [(oj k k1 k2).1, (oj k k1 k2).2]
           exact I.sep j k a hjk hj hk h
 · rw [hsz] at hj
   by_cases e : j = gs.size
   · subst e
     have hne0 : gs.size ≠ 0 := by omega
     refine ⟨child, by have := Array.getElem?_push_size (xs := gs.setIfInBounds i g') (x := child); simpa using this, ?_⟩
     rw [rN]
     refine ⟨hc, by show false = (gs.size == 0); simp [hne0], by rw [dj]; exact hdN, ⟨fun h => (by cases h), fun h => absurd h hne0⟩, ?_⟩
     simp only [Stg.early, if_true]
     exact ⟨HN, oN.1, oN.2⟩
   · have hjl : j < gs.size := by omega
     by_cases e2 : j = i
     · subst e2
       refine ⟨g', by simp [Array.getElem?_push, hlt, Nat.ne_of_lt hlt], ?_⟩
       rw [ri]
       refine ⟨hs', hmain, by rw [dj]; exact hdeaf, hup0, ?_⟩
       simp only [Stg.early, if_true]
       exact ⟨by rw [Hj _ e]; exact hH, oi.1, oi.2⟩
     · obtain ⟨x', hx', hl'⟩ := I.loc j hjl
       refine ⟨x', ?_, ?_⟩
       · rw [Array.getElem?_push]
         simp only [Array.size_setIfInBounds, e, if_false]
         rw [Array.getElem?_setIfInBounds_ne (Ne.symm e2)]
         exact hx'
       · rw [rj j e2 e]
         revert hl'
         cases G.role j with
         | act n s c =>
           rintro ⟨a1, a2, a3, a4, a5⟩
           refine ⟨a1, a2, by rw [dj]; exact a3, a4, ?_⟩
           rw [Hj j e, (oj j e2 e).1, (oj j e2 e).2]; exact a5
         | blk n c =>
           rintro ⟨a1, a2, a3, a4, a5, a6, a7, a8, a9⟩
           refine ⟨a1, a2, a3, a4, by rw [dj]; exact a5, a6, ?_⟩
           rw [Hj j e, (oj j e2 e).1, (oj j e2 e).2]; exact ⟨a7, a8, a9⟩
         | quit q =>
           rintro ⟨a1, a2, a3⟩
           refine ⟨by rw [dj]; exact a1, ?_, a3⟩
           rw [Hj j e]; exact a2
 · rw [hsz] at hj
   rw [dj, Hj j (by omega)]
   exact I.above j (by omega)
 · rw [hsz] at hpp ⊢
   by_cases e : p = gs.size
   · subst e
     unfold GroupOk
     rw [rN]
     simp only [Role.cfg?, Role.stg?, Stg.early, if_true]
     exact ⟨by rw [kids_j _ (Ne.symm hiN)]; exact I.bare _ (Nat.le_refl _), rfl, rfl, trivial⟩
   · by_cases ei : p = i
     · subst ei
       obtain ⟨m1, m2, m3⟩ := g5
       unfold GroupOk
       rw [ri]
       simp only [Role.cfg?, Role.stg?, Stg.early, if_true]
       have hz' : c'.cur = some z := hz
       simp only [hz']
       have cnt : Count G' p = Count G p + 1 := by
         unfold Count
         rw [kids_i, List.countP_cons, rN]
         have : List.countP (fun k => (G'.role k).ks.counted) (G.kids p) = List.countP (fun k => (G.role k).ks.counted) (G.kids p) := List.countP_congr fun k hk => by rw [ks_old k (kidLt p k hk)]
         rw [this]
         simp [Role.ks, KS.counted]
       refine ⟨g1, by show (v :: c.kids).length < 1001; simp; omega, ?_, ?_, ?_⟩
       · rw [kids_i]
         refine .cons ⟨hlt, by omega, upd_same _ _ _, by rw [rN]; rfl⟩ (g3.imp fun k v' hk hv => ?_)
         obtain ⟨a1, a2, a3, a4⟩ := hv
         refine ⟨a1, by omega, by rw [par_j k (by omega)]; exact a3, ?_⟩
         rw [ks_old k a2]
         have rel : RelOk G t w z k v' -> RelOk G' (t ++ #[x, y]) w z k v' := by
           rintro ⟨⟨r, hr', hsaid⟩, hv⟩
           refine ⟨⟨r, by rw [Hj k (by omega)]; exact hr', hsaid.app _⟩, ?_⟩
           rw [(oj k (by omega) (by omega)).1, (oj k (by omega) (by omega)).2]
           exact hv
         revert a4
         cases (G.role k).ks with
         | early up => exact id
         | rel up => exact fun q => ⟨q.1, rel q.2⟩
         | last j up => exact fun q => ⟨q.1, rel q.2⟩
         | gone => exact rel
       · rw [kids_i]
         exact List.nodup_cons.2 ⟨fun hk => by have := kidLt p _ hk; omega, g4⟩
       · simp only [Mode]
         rw [cnt]
         refine ⟨?_, fun k hk => ?_, by show Count G p + 1 <= c.ub + 1; omega⟩
         · simp only [hp, if_true] at m1
           simpa [c'] using m1
         · rw [kids_i] at hk
           rcases List.mem_cons.1 hk with rfl | hk
           · rw [rN]; exact .inl rfl
           · rw [ks_old k (kidLt p k hk)]; exact m2 k hk
     · refine GroupOk.frame (I.group p (by omega)) (Nat.le_succ _) (by rw [rj p ei e]) (by rw [rj p ei e]) (by rw [rj p ei e]; exact id) (kids_j p ei) (fun k hk => ?_) (fun _ _ => ⟨rfl, fun _ _ h => h⟩) (fun _ _ _ a _ => Same.refl a w) (Nat.le_refl _)
       have hkl := kidLt p k hk
       by_cases ek : k = i
       · subst ek
         exact .inr ⟨ksi, par_j k (by omega), c.up, by rw [hr]; rfl⟩
       · exact .inl ⟨ks_old k hkl, par_j k (by omega), (oj k ek (by omega)).1, (oj k ek (by omega)).2, Hj k (by omega)⟩
 · rw [hsz] at hpp
   rw [kids_j p (by omega)]
   exact I.bare p (by omega)
 · by_cases e : k = gs.size
   · subst e
     show gs.size ∈ G'.kids (upd G.par gs.size i gs.size)
     rw [upd_same, kids_i]; exact List.mem_cons_self ..
   · have := I.child k hk0 (by rw [<- Hj k e]; exact hk)
     rw [par_j k e]
     by_cases e2 : G.par k = i
     · rw [e2] at this ⊢
       rw [kids_i]; exact List.mem_cons_of_mem _ this
     · rw [kids_j _ e2]; exact this
end
section
variable {ty : TypeId} {P : Program} {Fin : Perm -> Perm -> Goroutine -> World -> Prop} {Shun : Go.Loc -> Prop} {lo : Nat} {Z : Nat -> Prop} {w₀ : World} {G G' : Ghost} {gs : Array Goroutine} {t u : Trace} {w w' : World}
theorem Inv.at (I : Inv ty P Fin Shun lo Z w₀ G gs w t) (d : Nat) : Inv ty P Fin Shun lo Z w₀ G gs (w.at d) t := by
 refine ⟨⟨I.base.size, I.base.os, I.base.tape, I.base.output, I.base.groups, I.base.low, I.base.zlow, I.base.shun⟩, I.ti, I.dull, I.sep, fun i hi => ?_, I.above, I.first, fun i hi => ?_, I.bare, I.child⟩
 · obtain ⟨g, hg, hl⟩ := I.loc i hi
   refine ⟨g, hg, ?_⟩
   revert hl
   cases G.role i with
   | act n s c => rintro ⟨a1, a2⟩; exact ⟨a1.rely (Rely.at ty c w d), a2⟩
   | blk n c => rintro ⟨a1, a2, a3, a4⟩; exact ⟨a1, a2, a3.rely (Rely.at ty c w d), a4⟩
   | quit q => exact id
 · have := I.group i hi
   have h2 := GroupOk.frame (G' := G) (u := #[]) (w' := w.at d) this (Nat.le_refl _) rfl rfl id rfl (fun k _ => .inl ⟨rfl, rfl, rfl, rfl, rfl⟩) (fun _ _ => ⟨rfl, fun _ _ h => h⟩) (fun _ _ _ a _ => ⟨rfl, rfl, rfl, fun _ => rfl, rfl⟩) (Nat.le_refl _)
   simpa using h2
def Wanted (P : Program) (Fin : Perm -> Perm -> Goroutine -> World -> Prop) (Shun : Go.Loc -> Prop) (lo : Nat) (Z : Nat -> Prop) (w₀ : World) (m : Machine) (t : Trace) : Prop :=
 ∃ (gs : Array Goroutine) (g : Goroutine) (w : World) (sl : Option (Nat × Nat)) (q : Nat -> Nat) (W : Nat -> Prop) (own rd : Perm),
   m = crowd gs w sl /\ gs[0]? = some g /\ g.status = .running /\ Fin own rd g w /\ Leavers P t gs q /\ Past (fun l => Shun l ∨ ∃ a, key l = some a /\ W a.block) w.heap.size t /\
   lo <= w.heap.size /\ w.os = w₀.os /\ w.tape = w₀.tape /\ w.output = w₀.output /\ (∀ b, W b -> lo <= b /\ b < w.heap.size) /\ (∀ a, own a ∨ rd a -> a.block < w.heap.size /\ ¬ W a.block /\ ¬ Z a.block)
theorem Inv.wanted (I : Inv ty P Fin Shun lo Z w₀ G gs w t) {n : Tree} {c : Cfg} {g : Goroutine} {sl : Option (Nat × Nat)} (hi : gs[0]? = some g) (hr : G.role 0 = .act n .work c) (hcur : c.cur = none) (hd : c.deaf = 0) (hF : Fin c.own c.rd g w) : Wanted P Fin Shun lo Z w₀ (crowd gs w sl) t := by
 obtain ⟨hlt, hl⟩ := I.here hi
 rw [hr] at hl
 obtain ⟨hs, _, hdeaf, _, hH⟩ := hl
 simp only [Stg.early, if_true] at hH
 obtain ⟨hH, hown, hrd⟩ := hH
 have hHs : (G.H 0).isSome = true := by rw [hH]; rfl
 have hal := I.alone (c := c) (by rw [hr]; rfl) hcur
 have P0 := I.ti.last hH hal (by rw [hdeaf, hd]) I.dull
 refine ⟨gs, g, w, sl, fun i => (G.role i).left, fun b => (G.W b).isSome = true, c.own, c.rd, rfl, hi, hs.running.1, hF, ⟨fun i x hi0 hx => ?_, fun j hj => (I.above j hj).1⟩, P0, I.base.size, I.base.os, I.base.tape, I.base.output,
   fun b hb => ?_, fun a ha => ?_⟩
 · have hil := (Array.getElem?_eq_some_iff.1 hx).1
   obtain ⟨y, hy, hly⟩ := I.loc i hil
   rw [hx] at hy; cases hy
   have hHi := hal i (by omega)
   revert hly
   cases hri : G.role i with
   | act n s c =>
     intro _
     have := (I.holds hil (c := c) (by rw [hri]; rfl)).1
     rw [hHi] at this; cases this
   | blk n c =>
     intro _
     have := (I.holds hil (c := c) (by rw [hri]; rfl)).1
     rw [hHi] at this; cases this
   | quit q => exact fun h => h.1
 · obtain ⟨p, hp⟩ := Option.isSome_iff_exists.1 hb
   exact I.base.groups b p hp
 · have := I.base.low 0 a hHs (ha.imp (by rw [hown]; exact id) (by rw [hrd]; exact id))
   exact ⟨this.1, (by show ¬ (G.W a.block).isSome = true; rw [this.2.1]; simp), this.2.2⟩
theorem Inv.someone (I : Inv ty P Fin Shun lo Z w₀ G gs w t) (h0 : ∃ n s c, G.role 0 = .act n s c ∨ G.role 0 = .blk n c) : ∃ (i : Nat) (g : Goroutine), gs[i]? = some g /\ g.status = .running := by
 -- the highest of those that are not leaving
 have hact : ∀ i, i < gs.size -> ∀ c, (G.role i).all? = some c -> (∃ g, gs[i]? = some g /\ g.status = .running) ∨ ∃ k, i < k /\ k < gs.size /\ ∃ c', (G.role k).all? = some c' := by
   intro i hi c hc
   obtain ⟨g, hg, hl⟩ := I.loc i hi
   revert hl
   cases hr : G.role i with
   | act n s c₂ => exact fun hl => .inl ⟨g, hg, hl.1.running.1⟩
   | quit q => rw [hr] at hc; cases hc
   | blk n c₂ =>
     intro hl
     refine .inr ?_
     have hg2 := I.group i hi
     unfold GroupOk at hg2
     rw [hr] at hg2
     simp only [Role.cfg?, Role.stg?] at hg2
     cases hz : c₂.cur with
     | none => rw [hz] at hg2; simp at hg2
     | some z =>
       rw [hz] at hg2
       simp only at hg2
       obtain ⟨_, _, g3, _, _, ⟨_, op, h1⟩ | ⟨L, hL, j, up, hk, _⟩ | ⟨_, _, hb⟩⟩ := hg2
       · obtain ⟨k, hk, hcnt⟩ := List.countP_pos_iff.1 (show 0 < Count G i by omega)
         obtain ⟨v, _, hv⟩ := g3.get hk
         refine ⟨k, hv.1, hv.2.1, ?_⟩
         revert hcnt
         cases G.role k with
         | act n s c => exact fun _ => ⟨c, rfl⟩
         | blk n c => exact fun _ => ⟨c, rfl⟩
         | quit q => simp [Role.ks, KS.counted]
       · obtain ⟨v, _, hv⟩ := g3.get hL
         refine ⟨L, hv.1, hv.2.1, ?_⟩
         revert hk
         cases G.role L with
         | act n s c => exact fun _ => ⟨c, rfl⟩
         | blk n c => exact fun _ => ⟨c, rfl⟩
         | quit q => simp [Role.ks]
       · rw [hr] at hb; cases hb
 have key : ∀ m i, gs.size - i <= m -> i < gs.size -> (∃ c, (G.role i).all? = some c) -> ∃ (j : Nat) (g : Goroutine), gs[j]? = some g /\ g.status = .running := by
   intro m
   induction m with
   | zero => intro i h1 h2; omega
   | succ m ih =>
     rintro i h1 h2 ⟨c, hc⟩
     rcases hact i h2 c hc with ⟨g, hg, hs⟩ | ⟨k, h3, h4, h5⟩
     · exact ⟨i, g, hg, hs⟩
     · exact ih k (by omega) h4 h5
 obtain ⟨n, s, c, h⟩ := h0
 exact key gs.size 0 (by omega) I.first ⟨c, by rcases h with h | h <;> rw [h] <;> rfl⟩
theorem Inv.awake (I : Inv ty P Fin Shun lo Z w₀ G gs w t) : ∀ g ∈ gs, Conc.awake g := by
 intro g hg tm
 obtain ⟨i, hi⟩ := Array.mem_iff_getElem?.1 hg
 obtain ⟨hlt, hl⟩ := I.here hi
 revert hl
 cases G.role i with
 | act n s c => intro hl; rw [hl.1.running.1]; simp
 | blk n c => intro hl; rw [hl.1]; simp
 | quit q =>
   intro hl
   rcases hl.1.status with h | h <;> rw [h] <;> simp
theorem Inv.zero (I : Inv ty P Fin Shun lo Z w₀ G gs w t) : ∃ n s c, G.role 0 = .act n s c ∨ G.role 0 = .blk n c := by
 obtain ⟨g, _, hl⟩ := I.loc 0 I.first
 revert hl
 cases hr : G.role 0 with
 | act n s c => exact fun _ => ⟨n, s, c, .inl rfl⟩
 | blk n c => exact fun _ => ⟨n, .work, c, .inr rfl⟩
 | quit q => exact fun hl => absurd rfl hl.2.2
theorem step_any (hFin : ∀ o r g w d, Fin o r g (w.at d) -> Fin o r g w) (I : Inv ty P Fin Shun lo Z w₀ G gs w t) (sl : Option (Nat × Nat)) :
   Wanted P Fin Shun lo Z w₀ (crowd gs w sl) t ∨ ∃ G' gs' w' sl' ops, stepT P (crowd gs w sl) = (.next (crowd gs' w' sl'), ops) /\ Lt3 (mu G' gs'.size) (mu G gs.size) /\ Inv ty P Fin Shun lo Z w₀ G' gs' w' (t ++ ops) := by
 obtain ⟨i, g, d, sl', hi, hrun, hst⟩ := crowd_pick (P := P) (w := w) (sl := sl) I.awake (I.someone I.zero)
 have I' := I.at d
 have fin : Goal ty P Fin Shun lo Z w₀ G gs (w.at d) t sl' i -> ∃ G' gs' w' sl' ops, stepT P (crowd gs w sl) = (.next (crowd gs' w' sl'), ops) /\ Lt3 (mu G' gs'.size) (mu G gs.size) /\ Inv ty P Fin Shun lo Z w₀ G' gs' w' (t ++ ops) := by
   rintro ⟨G', gs', w', ops, h1, h2, h3⟩
   exact ⟨G', gs', w', sl', ops, hst.trans h1, h2, h3⟩
 obtain ⟨hlt, hl⟩ := I'.here hi
 cases hr : G.role i with
 | quit q => exact .inr (fin (step_quit I' hi hrun hr))
 | blk n c =>
   rw [hr] at hl
   rw [hl.1] at hrun; cases hrun
 | act n s c =>
   rw [hr] at hl
   have hmain := hl.2.1
   cases n with
   | node ι f =>
     have hS := hl.1.2.2 (w.at d) (Rely.refl ty c _)
     rcases hS with ⟨he, _, g', w', es, c', hgo, O, hs'⟩ | ⟨he, ⟨z, v, hup⟩, _, g', es, hgo, hm, hs'⟩ | ⟨rfl, hp, hd, z, hz, h⟩ | ⟨rfl, hp, hd, hlen, z, hz, _, _, g', child, o, r, o', r', v, hgo, hcr, h1, h2, h3, h4, h5, h6⟩ | ⟨rfl, hp, hd, z, hz, h⟩ | ⟨vs, rfl, hd, z, hz, h⟩ | ⟨rfl, z, hz, hA, hB⟩ | ⟨rfl, hd, z, hz, h⟩ | ⟨rfl, hd, z, hz, h⟩ | ⟨rfl, hcur, hd, z, v, hup, hok, h⟩ | ⟨rfl, hd, z, v, hup, h⟩ | ⟨rfl, hd, z, v, hup, h⟩ | ⟨rfl, hd, z, v, hup, h⟩ | ⟨rfl, hmw, z, v, hup, h⟩ | ⟨rfl, hmn, hcur, hd, hF⟩
     · rw [hmain] at hgo
       exact .inr (fin (Goal.of_go hi hgo (step_ord I' hi hr he O hs')))
     · exact .inr (fin (step_idle I' hi hr he hup hgo hm hs'))
     · exact .inr (fin (step_add I' hi hr hp hd hz h))
     · exact .inr (fin (step_go I' hi hr hp hd hlen hz hgo h1 h2 h3 h4 h5 h6))
     · exact .inr (fin (step_w1 I' hi hr hp hd hz h))
     · exact .inr (fin (step_w2 I' hi hr hd hz h))
     · exact .inr (fin (step_w3 I' hi hr hz hA hB))
     · exact .inr (fin (step_w4 I' hi hr hd hz h))
     · exact .inr (fin (step_acq I' hi hr hd hz h))
     · exact .inr (fin (step_rel I' hi hr hcur hd hup hok h))
     · exact .inr (fin (step_d1 I' hi hr hd hup h))
     · exact .inr (fin (step_d2 I' hi hr hd hup h))
     · exact .inr (fin (step_d3 I' hi hr hd hup h))
     · exact .inr (fin (step_d4 I' hi hr hmw hup h))
     · have hi0 : i = 0 := by rw [hmn] at hmain; simpa using hmain.symm
       subst hi0
       exact .inl (I.wanted hi hr hcur hd (hFin _ _ _ _ _ hF))
theorem runs (hFin : ∀ o r g w d, Fin o r g (w.at d) -> Fin o r g w) : ∀ (μ : List Tree × Nat × Nat) (G : Ghost) (gs : Array Goroutine) (w : World) (t : Trace) (sl : Option (Nat × Nat)), mu G gs.size = μ -> Inv ty P Fin Shun lo Z w₀ G gs w t ->
   ∃ N m t', runNT P N (crowd gs w sl) t = (.next m, t') /\ Wanted P Fin Shun lo Z w₀ m t' := by
 intro μ
 induction μ using lt3_wf.induction with
 | _ μ ih =>
   rintro G gs w t sl rfl I
   rcases step_any hFin I sl with h | ⟨G', gs', w', sl', ops, h1, h2, h3⟩
   · exact ⟨0, _, t, rfl, h⟩
   · obtain ⟨N, m, t', h4, h5⟩ := ih _ h2 G' gs' w' (t ++ ops) sl' rfl h3
     refine ⟨N + 1, m, t', ?_, h5⟩
     simp only [runNT, h1]
     exact h4
theorem nest (hFin : ∀ o r g w d, Fin o r g (w.at d) -> Fin o r g w) {gs : Array Goroutine} {g : Goroutine} {w : World} {t : Trace} {sl : Option (Nat × Nat)} {q : Nat -> Nat} {n : Tree} {Z : Nat -> Prop} {o r : Perm}
   (h0 : gs[0]? = some g) (hL : Leavers P t gs q) (hP : Past Shun w.heap.size t) (hShun : ∀ l, Shun l -> ∃ a, key l = some a /\ Z a.block) (hZ : ∀ b, Z b -> b < w.heap.size)
   (hor : ∀ a, o a ∨ r a -> a.block < w.heap.size /\ ¬ Z a.block)
   (hS : Script ty P Fin n .work { main := true, own := o, rd := r, deaf := 0, cur := none, pend := false, ub := 0, kids := [], up := none } g w) :
   ∃ N m t', runNT P N (crowd gs w sl) t = (.next m, t') /\ Wanted P Fin Shun w.heap.size Z w m t' := by
 let c0 : Cfg := { main := true, own := o, rd := r, deaf := 0, cur := none, pend := false, ub := 0, kids := [], up := none }
 let G : Ghost := { role := fun i => if i = 0 then .act n .work c0 else .quit (q i), H := fun i => if i = 0 then some (.live 0) else none, own := fun i a => i = 0 /\ o a, rd := fun i a => i = 0 /\ r a, W := fun _ => none, par := fun _ => 0, kids := fun _ => [] }
 have hlt : 0 < gs.size := (Array.getElem?_eq_some_iff.1 h0).1
 refine runs (ty := ty) hFin _ G gs w t sl rfl ⟨⟨Nat.le_refl _, rfl, rfl, rfl, fun b p hp => (by cases hp), fun i a hi h => ?_, hZ, hShun⟩, ?_, .first hP, fun i j a hij hi hj h => ?_, fun i hi => ?_, fun j hj => ⟨hL.above j hj, ?_⟩, hlt, fun i hi => ?_, fun _ _ => rfl, fun k hk0 hk => ?_⟩
 · have := hor a (h.imp (·.2) (·.2))
   exact ⟨this.1, rfl, this.2⟩
 · refine TI.first hP o r fun a l h hl hs => ?_
   obtain ⟨a', e, hz⟩ := hShun _ hs
   rw [hl] at e; cases e
   exact (hor a h).2 hz
 · have e0 : i = 0 := h.1
   subst e0
   exact ⟨fun x => hij x.1.symm, fun x => hij x.1.symm⟩
 · by_cases e : i = 0
   · subst e
     refine ⟨g, h0, hS, rfl, hP.hears, ⟨fun _ => rfl, fun _ => rfl⟩, ?_⟩
     simp only [Stg.early, if_true]
     exact ⟨rfl, by funext a; simp [G, c0], by funext a; simp [G, c0]⟩
   · obtain ⟨x, hx⟩ : ∃ x, gs[i]? = some x := ⟨gs[i], Array.getElem?_eq_getElem hi⟩
     refine ⟨x, hx, ?_⟩
     show Loc ty P Fin G t w i x (if i = 0 then _ else _)
     rw [if_neg e]
     exact ⟨hL.old i x (by omega) hx, fun j => by simp [G, e], e⟩
 · show (if j = 0 then _ else none) = none
   rw [if_neg (by omega)]
 · unfold GroupOk
   show match (if i = 0 then Role.act n .work c0 else Role.quit (q i)).cfg?, (if i = 0 then Role.act n .work c0 else Role.quit (q i)).stg? with | some c, some s => _ | _, _ => _
   by_cases e : i = 0
   · rw [if_pos e]
     simp only [Role.cfg?, Role.stg?, Stg.early, if_true]
     exact ⟨rfl, rfl, rfl, trivial⟩
   · rw [if_neg e]
     rfl
 · exact absurd (by show (if k = 0 then _ else none) = none; rw [if_neg hk0]) hk
end
end Go.Nest
namespace Go.Eq
open Go
abbrev Ren := Nat -> Option Nat
def Ren.le (π π' : Ren) : Prop := ∀ b b', π b = some b' -> π' b = some b'
theorem Ren.le_refl (π : Ren) : π.le π := fun _ _ h => h
theorem Ren.le_trans {a b c : Ren} (h : a.le b) (k : b.le c) : a.le c := fun x y e => k x y (h x y e)
def Ren.upd (π : Ren) (r r' : Nat) : Ren := fun b => if b = r then some r' else π b
theorem Ren.upd_same (π : Ren) (r r' : Nat) : π.upd r r' r = some r' := by simp [Ren.upd]
theorem Ren.le_upd {π : Ren} {r r' : Nat} (h : π r = none) : π.le (π.upd r r') := by
 intro b b' e
 unfold Ren.upd
 split
 · rename_i x; rw [x, h] at e; cases e
 · exact e
class Env where
 fnOk : FuncId -> Prop
 codeOk : Code -> Prop
 sealed : Nat -> Prop
 low : Nat
section
variable [Env]
def ARel (π : Ren) (a a' : Addr) : Prop := π a.block = some a'.block /\ a.off = a'.off /\ a.spot = a'.spot /\ Env.low <= a.block
theorem ARel.mono {π π' : Ren} (h : π.le π') {a a' : Addr} (x : ARel π a a') : ARel π' a a' := ⟨h _ _ x.1, x.2⟩
theorem ARel.add {π : Ren} {a a' : Addr} (h : ARel π a a') (n : Nat) : ARel π (a.add n) (a'.add n) := by
 unfold Addr.add
 split
 · exact h
 · exact ⟨h.1, by simp [h.2.1], rfl, h.2.2.2⟩
def FnRel (π : Ren) : Fn -> Fn -> Prop
 | .func f, .func g => f = g /\ Env.fnOk f
 | .yield l, .yield l' => π l = some l'
 | _, _ => False
@[reducible] def junkV (v : Value) : Value := .func (.method "") #[.nilIface, v] #[]
def Lump : Value -> Prop
 | .agg _ | .tuple _ | .nilIface | .bool _ => False
 | _ => True
inductive VRel (π : Ren) : Value -> Value -> Prop
 | bool (b : Bool) : VRel π (.bool b) (.bool b)
 | int (k : IntKind) (n : Int) : VRel π (.int k n) (.int k n)
 | string (s : ByteArray) : VRel π (.string s) (.string s)
 | pnil : VRel π (.pointer none) (.pointer none)
 | pointer {a a' : Addr} : ARel π a a' -> VRel π (.pointer (some a)) (.pointer (some a'))
 | snil (n c : Nat) : VRel π (.slice none n c) (.slice none n c)
 | slice {a a' : Addr} (n c : Nat) : ARel π a a' -> VRel π (.slice (some a) n c) (.slice (some a') n c)
 | mnil : VRel π (.map none) (.map none)
 | map {r r' : Nat} : π r = some r' -> VRel π (.map (some r)) (.map (some r'))
 | func {f f' : Fn} {x x' c c' : Array Value} : FnRel π f f' -> x.size = x'.size -> (∀ i, i < x.size -> VRel π (x.getD i .nilFunc) (x'.getD i .nilFunc)) -> c.size = c'.size -> (∀ i, i < c.size -> VRel π (c.getD i .nilFunc) (c'.getD i .nilFunc)) -> VRel π (.func f x c) (.func f' x' c')
 | nilFunc : VRel π .nilFunc .nilFunc
 | iface (t : TypeId) {v v' : Value} : VRel π v v' -> VRel π (.iface t v) (.iface t v')
 | nilIface : VRel π .nilIface .nilIface
 | agg {c c' : Array Value} : c.size = c'.size -> (∀ i, i < c.size -> VRel π (c.getD i .nilFunc) (c'.getD i .nilFunc)) -> VRel π (.agg c) (.agg c')
 | tuple {c c' : Array Value} : c.size = c'.size -> (∀ i, i < c.size -> VRel π (c.getD i .nilFunc) (c'.getD i .nilFunc)) -> VRel π (.tuple c) (.tuple c')
 | junk {v' : Value} : Lump v' -> VRel π (.func (.method "") #[.nilIface, v'] #[]) v'
def VsRel (π : Ren) (c c' : Array Value) : Prop := c.size = c'.size /\ ∀ i, i < c.size -> VRel π (c.getD i .nilFunc) (c'.getD i .nilFunc)
theorem FnRel.mono {π π' : Ren} (h : π.le π') : ∀ {f f' : Fn}, FnRel π f f' -> FnRel π' f f'
 | .func _, .func _, x => x
 | .yield _, .yield _, x => h _ _ x
theorem VRel.mono {π π' : Ren} (h : π.le π') {v v' : Value} (x : VRel π v v') : VRel π' v v' := by
 induction x with
 | bool b => exact .bool b
 | int k n => exact .int k n
 | string s => exact .string s
 | pnil => exact .pnil
 | pointer a => exact .pointer (a.mono h)
 | snil n c => exact .snil n c
 | slice n c a => exact .slice n c (a.mono h)
 | mnil => exact .mnil
 | map r => exact .map (h _ _ r)
 | func f e1 _ e2 _ ih1 ih2 => exact .func (f.mono h) e1 ih1 e2 ih2
 | nilFunc => exact .nilFunc
 | iface t _ ih => exact .iface t ih
 | nilIface => exact .nilIface
 | agg e _ ih => exact .agg e ih
 | tuple e _ ih => exact .tuple e ih
 | junk h => exact .junk h
theorem VsRel.mono {π π' : Ren} (h : π.le π') {c c' : Array Value} (x : VsRel π c c') : VsRel π' c c' := ⟨x.1, fun i hi => (x.2 i hi).mono h⟩
theorem VsRel.get? {π : Ren} {c c' : Array Value} (h : VsRel π c c') (i : Nat) : (c[i]? = none /\ c'[i]? = none) ∨ ∃ v v', c[i]? = some v /\ c'[i]? = some v' /\ VRel π v v' := by
 rcases Nat.lt_or_ge i c.size with hi | hi
 · have hi' : i < c'.size := by rw [<- h.1]; exact hi
   have := h.2 i hi
   refine .inr ⟨c[i], c'[i], Array.getElem?_eq_getElem hi, Array.getElem?_eq_getElem hi', ?_⟩
   simpa [Array.getD, hi, hi'] using this
 · exact .inl ⟨Array.getElem?_eq_none hi, Array.getElem?_eq_none (by rw [<- h.1]; exact hi)⟩
theorem VsRel.of_get? {π : Ren} {c c' : Array Value} (e : c.size = c'.size) (h : ∀ (i : Nat) v v', c[i]? = some v -> c'[i]? = some v' -> VRel π v v') : VsRel π c c' := by
 refine ⟨e, fun i hi => ?_⟩
 have hi' : i < c'.size := by rw [<- e]; exact hi
 have := h i c[i] c'[i] (Array.getElem?_eq_getElem hi) (Array.getElem?_eq_getElem hi')
 simpa [Array.getD, hi, hi'] using this
theorem VsRel.empty (π : Ren) : VsRel π #[] #[] := ⟨rfl, fun i hi => by simp at hi⟩
theorem VsRel.push {π : Ren} {c c' : Array Value} (h : VsRel π c c') {v v' : Value} (hv : VRel π v v') : VsRel π (c.push v) (c'.push v') := by
 refine .of_get? (by simp [h.1]) fun i x x' e e' => ?_
 rw [Array.getElem?_push] at e e'
 rw [<- h.1] at e'
 split at e
 · rename_i hi
   rw [if_pos hi] at e'
   cases e; cases e'; exact hv
 · rename_i hi
   rw [if_neg hi] at e'
   rcases h.get? i with ⟨h1, _⟩ | ⟨y, y', h1, h2, hy⟩
   · rw [h1] at e; cases e
   · rw [h1] at e; rw [h2] at e'; cases e; cases e'; exact hy
theorem VsRel.append {π : Ren} {c c' d d' : Array Value} (h : VsRel π c c') (k : VsRel π d d') : VsRel π (c ++ d) (c' ++ d') := by
 refine .of_get? (by simp [h.1, k.1]) fun i x x' e e' => ?_
 rw [Array.getElem?_append] at e e'
 rw [<- h.1] at e'
 split at e
 · rename_i hi
   rw [if_pos hi] at e'
   rcases h.get? i with ⟨h1, _⟩ | ⟨y, y', h1, h2, hy⟩
   · rw [h1] at e; cases e
   · rw [h1] at e; rw [h2] at e'; cases e; cases e'; exact hy
 · rename_i hi
   rw [if_neg hi] at e'
   rcases k.get? (i - c.size) with ⟨h1, _⟩ | ⟨y, y', h1, h2, hy⟩
   · rw [h1] at e; cases e
   · rw [h1] at e; rw [h2] at e'; cases e; cases e'; exact hy
theorem VsRel.set {π : Ren} {c c' : Array Value} (h : VsRel π c c') (i : Nat) {v v' : Value} (hv : VRel π v v') : VsRel π (c.setIfInBounds i v) (c'.setIfInBounds i v') := by
 refine .of_get? (by simp [h.1]) fun j x x' e e' => ?_
 rw [Array.getElem?_setIfInBounds] at e e'
 rw [<- h.1] at e'
 split at e
 · rename_i hij
   rw [if_pos hij] at e'
   split at e
   · rename_i hlt
     rw [if_pos hlt] at e'
     cases e; cases e'; exact hv
   · cases e
 · rename_i hij
   rw [if_neg hij] at e'
   rcases h.get? j with ⟨h1, _⟩ | ⟨y, y', h1, h2, hy⟩
   · rw [h1] at e; cases e
   · rw [h1] at e; rw [h2] at e'; cases e; cases e'; exact hy
theorem VsRel.extract {π : Ren} {c c' : Array Value} (h : VsRel π c c') (a b : Nat) : VsRel π (c.extract a b) (c'.extract a b) := by
 refine .of_get? (by simp [h.1]) fun i x x' e e' => ?_
 rw [Array.getElem?_extract] at e e'
 rw [<- h.1] at e'
 split at e
 · rename_i hi
   rw [if_pos hi] at e'
   rcases h.get? (a + i) with ⟨h1, _⟩ | ⟨y, y', h1, h2, hy⟩
   · rw [h1] at e; cases e
   · rw [h1] at e; rw [h2] at e'; cases e; cases e'; exact hy
 · cases e
theorem VsRel.replicate {π : Ren} (n : Nat) {v v' : Value} (hv : VRel π v v') : VsRel π (Array.replicate n v) (Array.replicate n v') := by
 refine .of_get? (by simp) fun i x x' e e' => ?_
 simp only [Array.getElem?_replicate] at e e'
 split at e
 · rename_i hi
   rw [if_pos hi] at e'
   cases e; cases e'; exact hv
 · cases e
theorem VsRel.one {π : Ren} {v v' : Value} (hv : VRel π v v') : VsRel π #[v] #[v'] := by
 have := (VsRel.empty π).push hv
 simpa using this
theorem VsRel.getD {π : Ren} {c c' : Array Value} (h : VsRel π c c') (i : Nat) {v v' : Value} (hv : VRel π v v') : VRel π (c.getD i v) (c'.getD i v') := by
 rcases h.get? i with ⟨h1, h2⟩ | ⟨y, y', h1, h2, hy⟩
 · rw [Array.getD_eq_getD_getElem?, Array.getD_eq_getD_getElem?, h1, h2]; exact hv
 · rw [Array.getD_eq_getD_getElem?, Array.getD_eq_getD_getElem?, h1, h2]; exact hy
theorem VsRel.map {π : Ren} {α : Type} (c : Array α) {f g : α -> Value} (h : ∀ x, x ∈ c -> VRel π (f x) (g x)) : VsRel π (c.map f) (c.map g) := by
 refine .of_get? (by simp) fun i x x' e e' => ?_
 simp only [Array.getElem?_map, Option.map_eq_some_iff] at e e'
 obtain ⟨y, hy, rfl⟩ := e
 obtain ⟨y', hy', rfl⟩ := e'
 rw [hy] at hy'; cases hy'
 exact h y (Array.mem_of_getElem? hy)
theorem VRel.cells {π : Ren} {v v' : Value} (h : VRel π v v') : VsRel π v.cells v'.cells := by
 cases h with
 | agg e h => exact ⟨e, h⟩
 | @junk v' h =>
   have : v'.cells = #[v'] := by cases v' <;> first | rfl | exact h.elim
   rw [this]; exact VsRel.one (.junk h)
 | func h1 h2 h3 h4 h5 => exact VsRel.one (.func h1 h2 h3 h4 h5)
 | _ => exact VsRel.one (by constructor <;> assumption)
def DRel (π : Ren) (d d' : Deferred) : Prop :=
 (match d.target, d'.target with
   | .fn f c, .fn f' c' => (FnRel π f f' ∨ (f = f' /\ ∃ n, f = .method n)) /\ VsRel π c c'
   | .nil, .nil => True
   | .builtin b ts t cs, .builtin b' ts' t' cs' => b = b' /\ ts = ts' /\ t = t' /\ cs = cs'
   | .collected r, .collected r' => π r = some r'
   | _, _ => False) /\ VsRel π d.args d'.args
inductive DsRel (π : Ren) : List Deferred -> List Deferred -> Prop
 | nil : DsRel π [] []
 | cons {d d' : Deferred} {l l' : List Deferred} : DRel π d d' -> DsRel π l l' -> DsRel π (d :: l) (d' :: l')
def ERel (π : Ren) (es es' : Array MapEntry) : Prop := es.size = es'.size /\ ∀ (i : Nat) e e', es[i]? = some e -> es'[i]? = some e' -> VRel π e.key e'.key /\ VRel π e.val e'.val /\ e.born = e'.born
def OptRel (π : Ren) : Option Nat -> Option Nat -> Prop
 | none, none => True
 | some r, some r' => π r = some r'
 | _, _ => False
omit [Env] in
theorem OptRel.mono {π π' : Ren} (h : π.le π') : ∀ {m m' : Option Nat}, OptRel π m m' -> OptRel π' m m'
 | none, none, _ => trivial
 | some _, some _, x => h _ _ x
structure LRel (π : Ren) (l l' : Loop) : Prop where
 state : l.state = l'.state
 pending : l.pending = l'.pending
 pendOk : ∀ c, l.pending = some c -> Env.codeOk c
 fn : l.fn = l'.fn
 tmps : VsRel π l.tmps l'.tmps
 params : l.params = l'.params
 assign : l.assign = l'.assign
 body : l.body = l'.body
 assignOk : Env.codeOk l.assign
 bodyOk : Env.codeOk l.body
 defers : π l.defers = some l'.defers
def ORel (π : Ren) : Obj -> Obj -> Prop
 | .cells c t _, .cells c' t' _ => VsRel π c c' /\ t = t'
 | .map es k, .map es' k' => ERel π es es' /\ k = k'
 | .stringIter s n, .stringIter s' n' => s = s' /\ n = n'
 | .mapIter m a s b, .mapIter m' a' s' b' => OptRel π m m' /\ a = a' /\ s = s' /\ b = b'
 | .loop l, .loop l' => LRel π l l'
 | .deferred ds, .deferred ds' => ds = ds' /\ (ds = none ∨ ds = some [])
 | .number a b, .number a' b' => ARel π a a' /\ b = b'
 | _, _ => False
theorem ERel.mono {π π' : Ren} (h : π.le π') {es es' : Array MapEntry} (x : ERel π es es') : ERel π' es es' :=
 ⟨x.1, fun i e e' h1 h2 => let ⟨a, b, c⟩ := x.2 i e e' h1 h2; ⟨a.mono h, b.mono h, c⟩⟩
theorem ORel.mono {π π' : Ren} (h : π.le π') : ∀ {o o' : Obj}, ORel π o o' -> ORel π' o o'
 | .cells .., .cells .., x => ⟨x.1.mono h, x.2⟩
 | .map .., .map .., x => ⟨x.1.mono h, x.2⟩
 | .stringIter .., .stringIter .., x => x
 | .mapIter .., .mapIter .., x => ⟨x.1.mono h, x.2⟩
 | .loop _, .loop _, x => ⟨x.state, x.pending, x.pendOk, x.fn, x.tmps.mono h, x.params, x.assign, x.body, x.assignOk, x.bodyOk, h _ _ x.defers⟩
 | .deferred _, .deferred _, x => x
 | .number .., .number .., x => ⟨x.1.mono h, x.2⟩
def ice : Obj -> Nat × Nat
 | .cells _ _ f => f
 | _ => (0, 0)
def Within (p q : Nat × Nat) : Prop := ∀ o, (p.1 <= o /\ o < p.2) -> q.1 <= o /\ o < q.2
def Cold (b : Nat) (p q : Nat × Nat) : Prop := p = q ∨ (Env.sealed b /\ Within p q)
theorem Cold.within {b : Nat} {p q : Nat × Nat} : Cold b p q -> Within p q := fun h => h.elim (fun e => e ▸ fun _ h => h) (·.2)
structure WRel (π : Ren) (u w : World) : Prop where
 inj : ∀ a b c, π a = some c -> π b = some c -> a = b
 obj : ∀ b b', π b = some b' -> ∃ o o', u.heap[b]? = some o /\ w.heap[b']? = some o' /\ ORel π o o' /\ Cold b (ice o') (ice o)
 os : u.os = w.os
 rim : ∀ b, Env.sealed b -> ∃ b', π b = some b'
 low : ∀ b, b < Env.low -> ∃ o, u.heap[b]? = some o
 frost : ∀ b c t f, Env.sealed b -> u.heap[b]? = some (.cells c t f) -> ∀ i, i < c.size -> f.1 <= i /\ i < f.2
theorem WRel.size {π : Ren} {u w : World} (h : WRel π u w) {b b' : Nat} (e : π b = some b') : b < u.heap.size /\ b' < w.heap.size := by
 obtain ⟨o, o', h1, h2, _⟩ := h.obj b b' e
 exact ⟨(Array.getElem?_eq_some_iff.1 h1).1, (Array.getElem?_eq_some_iff.1 h2).1⟩
def Mild : Halt -> Prop
 | .unsupported (.initOrder _) => False
 | .panic _ | .stuck _ | .unsupported _ => True
 | _ => False
def Calm (u u' : World) : Prop := ∀ (r : Nat) (ds : List Deferred), u'.heap[r]? = some (Obj.deferred (some ds)) -> ds = [] ∨ u.heap[r]? = some (Obj.deferred (some ds))
omit [Env] in
theorem Calm.refl (u : World) : Calm u u := fun _ _ h => .inr h
omit [Env] in
theorem Calm.trans {u u' u'' : World} (h : Calm u u') (k : Calm u' u'') : Calm u u'' := fun r ds e => (k r ds e).elim .inl (h r ds)
def DeadS (P : Program) {α : Type} (x : Sem α) : Prop := ∀ u, ∃ h u', x.run P u = .halt h u' /\ Mild h /\ Calm u u'
inductive SRel (P : Program) {α β : Type} (Q : Ren -> α -> β -> Prop) : Ren -> Sem α -> Sem β -> Prop
 | pure {π : Ren} {a : α} {b : β} : Q π a b -> SRel P Q π (.pure a) (.pure b)
 | dead {π : Ren} {x : Sem α} {y : Sem β} : DeadS P x -> SRel P Q π x y
 | load {π : Ren} {a a' : Addr} {k : Value -> Sem α} {k' : Value -> Sem β} : ARel π a a' -> (∀ v v', VRel π v v' -> SRel P Q π (k v) (k' v')) -> SRel P Q π (.load .plain a k) (.load .plain a' k')
 | store {π : Ren} {a a' : Addr} {v v' : Value} {k : Sem α} {k' : Sem β} : ARel π a a' -> VRel π v v' -> SRel P Q π k k' -> SRel P Q π (.store .plain a v k) (.store .plain a' v' k')
 | new {π : Ren} {o o' : Obj} {k : Nat -> Sem α} {k' : Nat -> Sem β} : ORel π o o' -> ice o = ice o' -> (∀ r r', π r = none -> ¬ Env.sealed r -> Env.low <= r -> SRel P Q (π.upd r r') (k r) (k' r')) -> SRel P Q π (.new o k) (.new o' k')
 | freeze {π : Ren} {a a' : Addr} {n : Nat} {k : Sem α} {k' : Sem β} : ARel π a a' -> ¬ Env.sealed a.block -> SRel P Q π k k' -> SRel P Q π (.freeze a n k) (.freeze a' n k')
 | shape {π : Ren} {r r' : Nat} {k : Option (TypeId × Nat) -> Sem α} {k' : Option (TypeId × Nat) -> Sem β} : π r = some r' -> (∀ s, SRel P Q π (k s) (k' s)) -> SRel P Q π (.shape r k) (.shape r' k')
 | getObj {π : Ren} {r r' : Nat} {k : Obj -> Sem α} {k' : Obj -> Sem β} : π r = some r' -> (∀ o o', ORel π o o' -> SRel P Q π (k o) (k' o')) -> SRel P Q π (.getObj r k) (.getObj r' k')
 | setObj {π : Ren} {r r' : Nat} {o o' : Obj} {k : Sem α} {k' : Sem β} : π r = some r' -> ORel π o o' -> (∀ c t f, o ≠ .cells c t f) -> ¬ Env.sealed r -> SRel P Q π k k' -> SRel P Q π (.setObj r o k) (.setObj r' o' k')
 | choose {π : Ren} {q : Question} {k : Nat -> Sem α} {k' : Nat -> Sem β} : (∀ n, SRel P Q π (k n) (k' n)) -> SRel P Q π (.choose q k) (.choose q k')
 | program {π : Ren} {k : Program -> Sem α} {k' : Program -> Sem β} : SRel P Q π (k P) (k' P) -> SRel P Q π (.program k) (.program k')
 | mark {π : Ren} {m : Mark} {k : Sem α} {k' : Sem β} : (m = .noRoom ∨ ∃ f, m = .extern f) -> SRel P Q π k k' -> SRel P Q π (.mark m k) (.mark m k')
section
variable {P : Program} {α β γ δ : Type}
omit [Env] in
theorem dead_bind {x : Sem α} {f : α -> Sem γ} (h : DeadS P x) : DeadS P (x.bind f) := by
 intro u
 obtain ⟨hh, u', e, m⟩ := h u
 refine ⟨hh, u', ?_, m⟩
 show (x >>= f).run P u = _
 rw [Sem.run_bind, e]
 rfl
theorem SRel.halt {Q : Ren -> α -> β -> Prop} {π : Ren} {h : Halt} {y : Sem β} (m : Mild h := by trivial) : SRel P Q π (.halt h) y := .dead fun u => ⟨h, u, rfl, m, .refl u⟩
theorem SRel.mono {Q Q' : Ren -> α -> β -> Prop} {π : Ren} {x : Sem α} {y : Sem β} (h : SRel P Q π x y) (hq : ∀ π' a b, π.le π' -> Q π' a b -> Q' π' a b) : SRel P Q' π x y := by
 induction h with
 | pure q => exact .pure (hq _ _ _ (Ren.le_refl _) q)
 | dead h => exact .dead h
 | load a _ ih => exact .load a fun v v' hv => ih v v' hv hq
 | store a v _ ih => exact .store a v (ih hq)
 | new o f _ ih => exact .new o f fun r r' hr hs hl => ih r r' hr hs hl fun π' a b h q => hq π' a b (Ren.le_trans (Ren.le_upd hr) h) q
 | shape e _ ih => exact .shape e fun s => ih s hq
 | freeze e s _ ih => exact .freeze e s (ih hq)
 | getObj e _ ih => exact .getObj e fun o o' ho => ih o o' ho hq
 | setObj e o c s _ ih => exact .setObj e o c s (ih hq)
 | choose _ ih => exact .choose fun n => ih n hq
 | program _ ih => exact .program (ih hq)
 | mark m _ ih => exact .mark m (ih hq)
theorem SRel.bind {Q : Ren -> α -> β -> Prop} {Q' : Ren -> γ -> δ -> Prop} {π : Ren} {x : Sem α} {y : Sem β} {f : α -> Sem γ} {g : β -> Sem δ} (h : SRel P Q π x y) (hf : ∀ π' a b, π.le π' -> Q π' a b -> SRel P Q' π' (f a) (g b)) : SRel P Q' π (x.bind f) (y.bind g) := by
 induction h with
 | pure q => exact hf _ _ _ (Ren.le_refl _) q
 | dead h => exact .dead (dead_bind h)
 | load a _ ih => exact .load a fun v v' hv => ih v v' hv hf
 | store a v _ ih => exact .store a v (ih hf)
 | new o f _ ih => exact .new o f fun r r' hr hs hl => ih r r' hr hs hl fun π' a b h q => hf π' a b (Ren.le_trans (Ren.le_upd hr) h) q
 | shape e _ ih => exact .shape e fun s => ih s hf
 | freeze e s _ ih => exact .freeze e s (ih hf)
 | getObj e _ ih => exact .getObj e fun o o' ho => ih o o' ho hf
 | setObj e o c s _ ih => exact .setObj e o c s (ih hf)
 | choose _ ih => exact .choose fun n => ih n hf
 | program _ ih => exact .program (ih hf)
 | mark m _ ih => exact .mark m (ih hf)
theorem SRel.bind' {Q : Ren -> α -> β -> Prop} {Q' : Ren -> γ -> δ -> Prop} {π : Ren} {x : Sem α} {y : Sem β} {f : α -> Sem γ} {g : β -> Sem δ} (h : SRel P Q π x y) (hf : ∀ π' a b, π.le π' -> Q π' a b -> SRel P Q' π' (f a) (g b)) : SRel P Q' π (x >>= f) (y >>= g) := h.bind hf
end
end
section
variable [Env] {P : Program}
def Tapes (u w : World) : Prop := ∀ j q, u.tape (u.drawn + j) q = w.tape (w.drawn + j) q
def EvOk (π : Ren) (e : Event) : Prop :=
 (∃ a b wr, e = ⟨.cell a, wr, false⟩ /\ π b = some a.block /\ (wr = true -> ¬ Env.sealed b)) ∨
 (∃ r b wr, e = ⟨.obj r, wr, false⟩ /\ π b = some r /\ (wr = true -> ¬ Env.sealed b)) ∨
 (∃ m, e = ⟨.mark m, false, true⟩ /\ (m = .noRoom ∨ ∃ f, m = .extern f))
structure Eff (π π' : Ren) (w w' : World) (es : List Event) : Prop where
 le : π.le π'
 size : w.heap.size <= w'.heap.size
 out : ∀ b', b' < w.heap.size -> (∀ b, π b ≠ some b') -> w'.heap[b']? = w.heap[b']?
 still : ∀ b b', Env.sealed b -> π b = some b' -> w'.heap[b']? = w.heap[b']?
 shape : ∀ b, b < w.heap.size -> w'.shape? b = w.shape? b
 new : ∀ b b', π' b = some b' -> π b = some b' ∨ w.heap.size <= b'
 os : w'.os = w.os
 tape : w'.tape = w.tape
 output : w'.output = w.output
 evs : ∀ e ∈ es, EvOk π' e
theorem EvOk.mono {π π' : Ren} (h : π.le π') {e : Event} (x : EvOk π e) : EvOk π' e := by
 rcases x with ⟨a, b, wr, e1, e2, e3⟩ | ⟨r, b, wr, e1, e2, e3⟩ | x
 · exact .inl ⟨a, b, wr, e1, h _ _ e2, e3⟩
 · exact .inr (.inl ⟨r, b, wr, e1, h _ _ e2, e3⟩)
 · exact .inr (.inr x)
theorem Eff.refl (π : Ren) (w : World) : Eff π π w w [] := ⟨Ren.le_refl π, Nat.le_refl _, fun _ _ _ => rfl, fun _ _ _ _ => rfl, fun _ _ => rfl, fun _ _ h => .inl h, rfl, rfl, rfl, fun _ h => by cases h⟩
theorem Eff.trans {π π' π'' : Ren} {w w' w'' : World} {es fs : List Event} (h : Eff π π' w w' es) (k : Eff π' π'' w' w'' fs) : Eff π π'' w w'' (es ++ fs) := by
 refine ⟨Ren.le_trans h.le k.le, Nat.le_trans h.size k.size, fun b' hb hn => ?_, fun b b' hs e => (k.still b b' hs (h.le _ _ e)).trans (h.still b b' hs e), fun b hb => (k.shape b (Nat.lt_of_lt_of_le hb h.size)).trans (h.shape b hb), fun b b' e => ?_, k.os.trans h.os, k.tape.trans h.tape, k.output.trans h.output, fun e he => ?_⟩
 · refine (k.out b' (Nat.lt_of_lt_of_le hb h.size) fun b e => ?_).trans (h.out b' hb hn)
   rcases h.new b b' e with x | x
   · exact hn b x
   · omega
 · rcases k.new b b' e with x | x
   · exact h.new b b' x
   · exact .inr (Nat.le_trans h.size x)
 · rcases List.mem_append.1 he with x | x
   · exact (h.evs e x).mono k.le
   · exact k.evs e x
theorem cell_rel {π : Ren} {u w : World} (W : WRel π u w) {a a' : Addr} (h : ARel π a a') : (u.cell? a = none /\ w.cell? a' = none) ∨ ∃ v v', u.cell? a = some v /\ w.cell? a' = some v' /\ VRel π v v' := by
 obtain ⟨h1, h2, h3, -⟩ := h
 obtain ⟨o, o', e1, e2, ho, _⟩ := W.obj _ _ h1
 simp only [World.cell?, e1, e2]
 cases o <;> cases o' <;> simp only [ORel] at ho <;> try exact .inl ⟨rfl, rfl⟩
 rw [<- h2, <- h3]
 cases a.spot.isSome
 · exact ho.1.get? a.off
 · exact .inl ⟨rfl, rfl⟩
theorem frozen_rel {π : Ren} {u w : World} (W : WRel π u w) {a a' : Addr} (h : ARel π a a') : w.frozen? a' = true -> u.frozen? a = true := by
 obtain ⟨h1, h2, h3, -⟩ := h
 obtain ⟨o, o', e1, e2, ho, hw⟩ := W.obj _ _ h1
 simp only [World.frozen?, e1, e2]
 cases o <;> cases o' <;> simp only [ORel] at ho <;> try exact id
 replace hw := hw.within
 simp only [ice] at hw
 rw [<- h2]
 intro x
 have := hw a.off (by simpa using x)
 simpa using this
def Idle (π : Ren) (u : World) : Prop := ∀ r r', π r = some r' -> ∀ ds : List Deferred, u.heap[r]? = some (Obj.deferred (some ds)) -> ds = []
omit [Env] in
theorem Idle.mono {π π' : Ren} {u : World} (h : π.le π') (k : Idle π' u) : Idle π u := fun r r' e => k r r' (h _ _ e)
theorem WRel.idle {π : Ren} {u w : World} (W : WRel π u w) : Idle π u := fun r r' e ds hd => by
 obtain ⟨o, o', e1, e2, ho, _⟩ := W.obj _ _ e
 rw [hd] at e1
 cases e1
 cases o' <;> simp only [ORel] at ho
 rcases ho.2 with h | h
 · cases h
 · cases h; rfl
omit [Env] in
theorem Idle.calm {π : Ren} {u u' : World} (h : Idle π u) (k : Calm u u') : Idle π u' := fun r r' e ds hd => (k r ds hd).elim id (h r r' e ds)
theorem shape_rel {π : Ren} {u w : World} (W : WRel π u w) {r r' : Nat} (h : π r = some r') : u.shape? r = w.shape? r' := by
 obtain ⟨o, o', e1, e2, ho, _⟩ := W.obj _ _ h
 simp only [World.shape?, e1, e2]
 cases o <;> cases o' <;> simp only [ORel] at ho <;> try rfl
 simp [ho.1.1, ho.2]
theorem WRel.turn {π : Ren} {u w u' w' : World} (W : WRel π u w) {b b' : Nat} (hb : π b = some b') (hu : ∀ x, x ≠ b -> u'.heap[x]? = u.heap[x]?) (hw : ∀ x, x ≠ b' -> w'.heap[x]? = w.heap[x]?) (hos : u'.os = w'.os)
   (h : ∃ o o', u'.heap[b]? = some o /\ w'.heap[b']? = some o' /\ ORel π o o' /\ Cold b (ice o') (ice o)) (hf : Env.sealed b -> u'.heap[b]? = u.heap[b]?) : WRel π u' w' := by
 refine ⟨W.inj, fun x x' e => ?_, hos, W.rim, fun x hx => ?_, fun x c t f hs hx => ?_⟩
 · by_cases e1 : x = b
   · subst e1; rw [hb] at e; cases e; exact h
   · have e2 : x' ≠ b' := fun e2 => by subst e2; exact e1 (W.inj _ _ _ e hb)
     rw [hu x e1, hw x' e2]
     exact W.obj x x' e
 · by_cases e1 : x = b
   · subst e1; obtain ⟨o, _, ho, _⟩ := h; exact ⟨o, ho⟩
   · rw [hu x e1]; exact W.low x hx
 · by_cases e1 : x = b
   · subst e1; rw [hf hs] at hx; exact W.frost x c t f hs hx
   · rw [hu x e1] at hx; exact W.frost x c t f hs hx
omit [Env] in
theorem modify_ne {u : Array Obj} {f : Obj -> Obj} {b x : Nat} (h : x ≠ b) : (u.modify b f)[x]? = u[x]? := by rw [Array.getElem?_modify, if_neg (Ne.symm h)]
omit [Env] in
theorem modify_eq {u : Array Obj} {f : Obj -> Obj} {b : Nat} {o : Obj} (h : u[b]? = some o) : (u.modify b f)[b]? = some (f o) := by rw [Array.getElem?_modify, if_pos rfl, h]; rfl
theorem WRel.same {π : Ren} {u w u' w' : World} (W : WRel π u w) (h1 : u'.heap = u.heap) (h2 : w'.heap = w.heap) (h3 : u'.os = w'.os) : WRel π u' w' :=
 ⟨W.inj, by rw [h1, h2]; exact W.obj, h3, W.rim, by rw [h1]; exact W.low, by rw [h1]; exact W.frost⟩
structure Loc (P : Program) {α : Type} (x : Sem α) (u : World) (es : Array Event) (a : α) (u' : World) (es' : Array Event) : Prop where
 drawn : u.drawn <= u'.drawn
 tape : u'.tape = u.tape
 moved : ∀ t : Nat -> Question -> Nat, (∀ d q, u.drawn <= d -> d < u'.drawn -> t d q = u.tape d q) -> x.runT P { u with tape := t } es = (.ok a { u' with tape := t }, es')
def Res (P : Program) {α β : Type} (Q : Ren -> α -> β -> Prop) (π : Ren) (x : Sem α) (u : World) (es es' : Array Event) (y : Sem β) (w : World) (fs : Array Event) : Result α -> Prop
 | .ok a u' => (∃ b w' π' gs, y.runT P w fs = (.ok b w', fs ++ gs.toArray) /\ Q π' a b /\ WRel π' u' w' /\ Tapes u' w' /\ Eff π π' w w' gs) /\ Loc P x u es a u' es'
 | .halt h u' => Mild h /\ Idle π u'
theorem Res.map {α β : Type} {Q : Ren -> α -> β -> Prop} {π π1 : Ren} {x x1 : Sem α} {u u1 : World} {es es1 es' : Array Event} {y y1 : Sem β} {w w1 : World} {fs fs1 : Array Event} {r : Result α} (hle : π.le π1) (R : Res P Q π1 x1 u1 es1 es' y1 w1 fs1 r)
   (hl : ∀ a u', Loc P x1 u1 es1 a u' es' -> Loc P x u es a u' es')
   (h : ∀ a u' b w' π' gs, y1.runT P w1 fs1 = (.ok b w', fs1 ++ gs.toArray) -> Q π' a b -> WRel π' u' w' -> Tapes u' w' -> Eff π1 π' w1 w' gs -> ∃ b w' π' gs, y.runT P w fs = (.ok b w', fs ++ gs.toArray) /\ Q π' a b /\ WRel π' u' w' /\ Tapes u' w' /\ Eff π π' w w' gs) : Res P Q π x u es es' y w fs r := by
 cases r with
 | ok a u' => obtain ⟨⟨b, w', π', gs, h1, h2, h3, h4, h5⟩, L⟩ := R; exact ⟨h a u' b w' π' gs h1 h2 h3 h4 h5, hl a u' L⟩
 | halt hh u' => exact ⟨R.1, R.2.mono hle⟩
theorem SRel.run {α β : Type} {Q : Ren -> α -> β -> Prop} {π : Ren} {x : Sem α} {y : Sem β} (h : SRel P Q π x y) : ∀ {u w : World} (es fs : Array Event) {r : Result α} {es' : Array Event}, WRel π u w -> Tapes u w -> x.runT P u es = (r, es') -> Res P Q π x u es es' y w fs r := by
 induction h with
 | @pure π a b q =>
   intro u w es fs rr es' W T e
   simp only [Sem.runT, Prod.mk.injEq] at e
   obtain ⟨rfl, rfl⟩ := e
   exact ⟨⟨b, w, π, [], by simp [Sem.runT], q, W, T, .refl π w⟩, ⟨Nat.le_refl _, rfl, fun t _ => rfl⟩⟩
 | dead h =>
   intro u w es fs rr es' W T e
   obtain ⟨hh, u', e1, m, hc⟩ := h u
   rw [<- Sem.runT_fst (es := es), e] at e1
   simp only at e1
   subst e1
   exact ⟨m, W.idle.calm hc⟩
 | @load π a a' k k' ha _ ih =>
   intro u w es fs rr es' W T e
   rcases cell_rel W ha with ⟨h1, _⟩ | ⟨v, v', h1, h2, hv⟩
   · -- on the left there is no such cell
     obtain ⟨o, o', e1, _, ho, _⟩ := W.obj _ _ ha.1
     simp only [Sem.runT, h1] at e
     have : ∃ hh, u.farLoad P a (Mode.plain == .atomic) = .error hh /\ Mild hh := by
       unfold World.farLoad World.noCell
       rw [e1]
       cases o <;> cases o' <;> simp only [ORel] at ho <;> exact ⟨_, rfl, trivial⟩
     obtain ⟨hh, e2, m⟩ := this
     rw [e2] at e
     simp only [Prod.mk.injEq] at e
     rw [<- e.1]
     exact ⟨m, W.idle⟩
   · simp only [Sem.runT, h1] at e
     refine (ih v v' hv _ (fs.push ⟨.cell a', false, false⟩) W T e).map (Ren.le_refl _) (fun _ _ L => ⟨L.drawn, L.tape, fun t ht => by simp only [Sem.runT]; rw [show World.cell? { u with tape := t } a = u.cell? a from rfl, h1]; exact L.moved t ht⟩) fun x u' b w' π' gs r1 r2 r3 r4 r5 => ?_
     refine ⟨b, w', π', ⟨.cell a', false, false⟩ :: gs, ?_, r2, r3, r4, ?_⟩
     · simp only [Sem.runT, h2]
       show (k' v').runT P w (fs.push ⟨.cell a', false, Mode.plain == .atomic⟩) = _
       rw [show (Mode.plain == Mode.atomic) = false from rfl, r1]
       simp
     · refine ⟨r5.le, r5.size, r5.out, r5.still, r5.shape, r5.new, r5.os, r5.tape, r5.output, fun e he => ?_⟩
       rcases List.mem_cons.1 he with rfl | he
       · exact .inl ⟨a', a.block, false, rfl, r5.le _ _ ha.1, fun h => by cases h⟩
       · exact r5.evs e he
 | @store π a a' v v' k k' ha hv _ ih =>
   intro u w es fs rr es' W T e
   by_cases hagg : (∃ c, v = .agg c) ∨ ∃ c, v = .tuple c
   · rcases hagg with ⟨c, rfl⟩ | ⟨c, rfl⟩ <;> simp only [Sem.runT, Prod.mk.injEq] at e <;> rw [<- e.1] <;> exact ⟨True.intro, W.idle⟩
   have nagg : (∀ c, v ≠ .agg c) /\ (∀ c, v ≠ .tuple c) := ⟨fun c hc => hagg (.inl ⟨c, hc⟩), fun c hc => hagg (.inr ⟨c, hc⟩)⟩
   have nagg' : (∀ c, v' ≠ .agg c) /\ (∀ c, v' ≠ .tuple c) := by
     refine ⟨fun c hc => ?_, fun c hc => ?_⟩
     · subst hc; cases hv with
       | agg _ _ => exact nagg.1 _ rfl
       | junk k => exact k.elim
     · subst hc; cases hv with
       | tuple _ _ => exact nagg.2 _ rfl
       | junk k => exact k.elim
   rcases cell_rel W ha with ⟨h1, _⟩ | ⟨c, c', h1, h2, hc⟩
   · obtain ⟨o, o', e1, _, ho, _⟩ := W.obj _ _ ha.1
     rw [Sem.runT.eq_5 _ _ _ _ _ _ _ (fun c hc => nagg.1 c hc) (fun c hc => nagg.2 c hc)] at e
     simp only [h1] at e
     have : ∃ hh, u.farStore P a v (Mode.plain == .atomic) = .error hh /\ Mild hh := by
       unfold World.farStore World.noCell
       rw [e1]
       cases o <;> cases o' <;> simp only [ORel] at ho <;> exact ⟨_, rfl, trivial⟩
     obtain ⟨hh, e2, m⟩ := this
     rw [e2] at e
     simp only [Prod.mk.injEq] at e
     rw [<- e.1]
     exact ⟨m, W.idle⟩
   · rw [Sem.runT.eq_5 _ _ _ _ _ _ _ (fun c hc => nagg.1 c hc) (fun c hc => nagg.2 c hc)] at e
     simp only [h1] at e
     cases hf : u.frozen? a with
     | true =>
       rw [hf] at e
       simp only [if_true, Prod.mk.injEq] at e
       rw [<- e.1]
       exact ⟨True.intro, W.idle⟩
     | false =>
       rw [hf] at e
       simp only [Bool.false_eq_true, if_false] at e
       have hf' : w.frozen? a' = false := by
         cases h : w.frozen? a' with
         | false => rfl
         | true => rw [frozen_rel W ha h] at hf; cases hf
       obtain ⟨o, o', e1, e2, ho, hw⟩ := W.obj _ _ ha.1
       -- the cell's block, on either side
       have hcells : ∃ cs t f cs' t' f', o = .cells cs t f /\ o' = .cells cs' t' f' := by
         cases o <;> simp only [World.cell?, e1] at h1 <;> try cases h1
         cases o' <;> simp only [ORel] at ho
         exact ⟨_, _, _, _, _, _, rfl, rfl⟩
       obtain ⟨cs, t, f, cs', t', f', rfl, rfl⟩ := hcells
       have hsp : a.spot.isSome = false := by
         cases h : a.spot.isSome with
         | false => rfl
         | true => simp [World.cell?, e1, h] at h1
       have hsp' : a'.spot.isSome = false := by rw [<- ha.2.2.1]; exact hsp
       have hns : ¬ Env.sealed a.block := fun hs => by
         have hoff : a.off < cs.size := by
           simp only [World.cell?, e1, hsp] at h1
           exact (Array.getElem?_eq_some_iff.1 h1).1
         have := W.frost _ _ _ _ hs e1 a.off hoff
         simp only [World.frozen?, e1] at hf
         simp at hf
         omega
       have hu1 : ∀ x, x ≠ a.block -> (u.setCell a v).heap[x]? = u.heap[x]? := fun x hx => modify_ne hx
       have hw1 : ∀ x, x ≠ a'.block -> (w.setCell a' v').heap[x]? = w.heap[x]? := fun x hx => modify_ne hx
       have hu2 : (u.setCell a v).heap[a.block]? = some (.cells (cs.setIfInBounds a.off v) t f) := by
         simp [World.setCell, Array.getElem?_modify, e1, hsp]
       have hw2 : (w.setCell a' v').heap[a'.block]? = some (.cells (cs'.setIfInBounds a'.off v') t' f') := by
         simp [World.setCell, Array.getElem?_modify, e2, hsp']
       have W1 : WRel π (u.setCell a v) (w.setCell a' v') := W.turn ha.1 hu1 hw1 W.os
         ⟨_, _, hu2, hw2, ⟨by rw [<- ha.2.1]; exact ho.1.set a.off hv, ho.2⟩, hw⟩ (fun x => absurd x hns)
       refine (ih _ (fs.push ⟨.cell a', true, false⟩) W1 T e).map (Ren.le_refl _) (fun _ _ L => ⟨L.drawn, L.tape, fun t ht => by rw [Sem.runT.eq_5 _ _ _ _ _ _ _ (fun c hc => nagg.1 c hc) (fun c hc => nagg.2 c hc)]; rw [show World.cell? { u with tape := t } a = u.cell? a from rfl, h1, show World.frozen? { u with tape := t } a = u.frozen? a from rfl, hf]; exact L.moved t ht⟩) fun x u' b w' π' gs r1 r2 r3 r4 r5 => ?_
       have E0 : Eff π π w (w.setCell a' v') [] := by
         refine ⟨Ren.le_refl π, by simp [World.setCell], fun b' _ hn => hw1 b' fun e => hn _ (e ▸ ha.1), fun x x' hx hxx => hw1 x' fun e => ?_, fun x _ => ?_, fun _ _ h => .inl h, rfl, rfl, rfl, fun _ h => by cases h⟩
         · subst e; exact hns (W.inj _ _ _ hxx ha.1 ▸ hx)
         · by_cases hx : x = a'.block
           · subst hx; simp [World.shape?, hw2, e2]
           · simp only [World.shape?, hw1 x hx]
       refine ⟨b, w', π', ⟨.cell a', true, false⟩ :: gs, ?_, r2, r3, r4, ?_⟩
       · rw [Sem.runT.eq_5 _ _ _ _ _ _ _ (fun c hc => nagg'.1 c hc) (fun c hc => nagg'.2 c hc)]
         simp only [h2, hf', Bool.false_eq_true, if_false]
         rw [show (Mode.plain == Mode.atomic) = false from rfl, r1]
         simp
       · have r6 := E0.trans r5
         refine ⟨r6.le, r6.size, r6.out, r6.still, r6.shape, r6.new, r6.os, r6.tape, r6.output, fun e he => ?_⟩
         rcases List.mem_cons.1 he with rfl | he
         · exact .inl ⟨a', a.block, true, rfl, r5.le _ _ ha.1, fun _ => hns⟩
         · exact r5.evs e he
 | @new π o o' k k' ho hice _ ih =>
   intro u w es fs rr es' W T e
   have hnone : π u.heap.size = none := by
     cases h : π u.heap.size with
     | none => rfl
     | some b => have := (W.size h).1; omega
   have hns : ¬ Env.sealed u.heap.size := fun h => by obtain ⟨b, hb⟩ := W.rim _ h; rw [hnone] at hb; cases hb
   have hlow : Env.low <= u.heap.size := by
     rcases Nat.lt_or_ge u.heap.size Env.low with h | h
     · obtain ⟨o1, ho1⟩ := W.low _ h
       have := (Array.getElem?_eq_some_iff.1 ho1).1
       omega
     · exact h
   have hle := Ren.le_upd (r' := w.heap.size) hnone
   have W1 : WRel (π.upd u.heap.size w.heap.size) { u with heap := u.heap.push o } { w with heap := w.heap.push o' } := by
     refine ⟨fun a b c ha hb => ?_, fun b b' hb => ?_, W.os, fun b hb => ?_, fun b hb => ?_, fun b c t f hb hbb => ?_⟩
     · unfold Ren.upd at ha hb
       split at ha <;> split at hb
       · rename_i x y; rw [x, y]
       · rename_i x y; cases ha; have := (W.size hb).2; omega
       · rename_i x y; cases hb; have := (W.size ha).2; omega
       · exact W.inj _ _ _ ha hb
     · unfold Ren.upd at hb
       split at hb
       · rename_i x
         subst x; cases hb
         exact ⟨o, o', by simp, by simp, ho.mono hle, .inl hice.symm⟩
       · obtain ⟨p, p', e1, e2, e3, e4⟩ := W.obj _ _ hb
         have := W.size hb
         refine ⟨p, p', ?_, ?_, e3.mono hle, e4⟩
         · simp only [Array.getElem?_push]; rw [if_neg (by omega)]; exact e1
         · simp only [Array.getElem?_push]; rw [if_neg (by omega)]; exact e2
     · obtain ⟨b', hb'⟩ := W.rim b hb
       exact ⟨b', hle _ _ hb'⟩
     · obtain ⟨o1, ho1⟩ := W.low b hb
       have := (Array.getElem?_eq_some_iff.1 ho1).1
       refine ⟨o1, ?_⟩
       simp only [Array.getElem?_push]; rw [if_neg (by omega)]; exact ho1
     · simp only [Array.getElem?_push] at hbb
       split at hbb
       · rename_i x; subst x; exact absurd hb hns
       · exact W.frost b c t f hb hbb
   refine (ih u.heap.size w.heap.size hnone hns hlow es fs W1 T e).map hle (fun _ _ L => ⟨L.drawn, L.tape, fun t ht => by simp only [Sem.runT]; exact L.moved t ht⟩) fun x u' b w' π' gs r1 r2 r3 r4 r5 => ?_
   have E0 : Eff π (π.upd u.heap.size w.heap.size) w { w with heap := w.heap.push o' } [] := by
     refine ⟨hle, by simp, fun b' hb _ => ?_, fun x x' _ hxx => ?_, fun x hx => ?_, fun x x' h => ?_, rfl, rfl, rfl, fun _ h => by cases h⟩
     · simp only [Array.getElem?_push]; rw [if_neg (by omega)]
     · have := (W.size hxx).2
       simp only [Array.getElem?_push]; rw [if_neg (by omega)]
     · simp only [World.shape?, Array.getElem?_push]; rw [if_neg (by omega)]
     · unfold Ren.upd at h
       split at h
       · cases h; exact .inr (Nat.le_refl _)
       · exact .inl h
   exact ⟨b, w', π', gs, r1, r2, r3, r4, by simpa using E0.trans r5⟩
 | @freeze π a a' n k k' ha hns _ ih =>
   intro u w es fs rr es' W T e
   simp only [Sem.runT] at e
   obtain ⟨o, o', e1, e2, ho, hw⟩ := W.obj _ _ ha.1
   have hw0 : ice o' = ice o := hw.resolve_right fun h => hns h.1
   by_cases hn : n = 0
   · subst hn
     have g : ∀ (x : World) (b : Addr), x.freeze b 0 = x := fun x b => by simp [World.freeze]
     rw [g] at e
     exact (ih es fs W T e).map (Ren.le_refl _) (fun _ _ L => ⟨L.drawn, L.tape, fun t ht => by simp only [Sem.runT]; rw [g]; exact L.moved t ht⟩) fun x u' b w' π' gs r1 r2 r3 r4 r5 => ⟨b, w', π', gs, by simp only [Sem.runT]; rw [g]; exact r1, r2, r3, r4, r5⟩
   have hu1 : ∀ x, x ≠ a.block -> (u.freeze a n).heap[x]? = u.heap[x]? := fun x hx => by simp only [World.freeze, if_neg hn]; exact modify_ne hx
   have hw1 : ∀ x, x ≠ a'.block -> (w.freeze a' n).heap[x]? = w.heap[x]? := fun x hx => by simp only [World.freeze, if_neg hn]; exact modify_ne hx
   have hos : (u.freeze a n).os = u.os /\ (w.freeze a' n).os = w.os /\ (u.freeze a n).tape = u.tape /\ (w.freeze a' n).tape = w.tape /\ (w.freeze a' n).output = w.output /\ (u.freeze a n).drawn = u.drawn /\ (w.freeze a' n).drawn = w.drawn /\ (w.freeze a' n).heap.size = w.heap.size := by
     simp [World.freeze, if_neg hn]
   have h2 : ∃ p p', (u.freeze a n).heap[a.block]? = some p /\ (w.freeze a' n).heap[a'.block]? = some p' /\ ORel π p p' /\ ice p' = ice p /\ (w.freeze a' n).shape? a'.block = w.shape? a'.block := by
     simp only [World.freeze, if_neg hn]
     cases o <;> cases o' <;> simp only [ORel] at ho
     · rename_i c t f c' t' f'
       simp only [ice] at hw0
       subst hw0
       refine ⟨_, _, modify_eq e1, modify_eq e2, ⟨ho.1, ho.2⟩, ?_, ?_⟩
       · simp only [ice, ha.2.1]
       · simp only [World.shape?, modify_eq e2, e2]
     all_goals exact ⟨_, _, modify_eq e1, modify_eq e2, ho, hw0, by simp only [World.shape?, modify_eq e2, e2]⟩
   obtain ⟨p, p', h3, h4, h5, h6, h7⟩ := h2
   have W1 : WRel π (u.freeze a n) (w.freeze a' n) := W.turn ha.1 hu1 hw1 (by rw [hos.1, hos.2.1]; exact W.os) ⟨p, p', h3, h4, h5, .inl h6⟩ (fun x => absurd x hns)
   have T1 : Tapes (u.freeze a n) (w.freeze a' n) := fun j q => by rw [hos.2.2.1, hos.2.2.2.1, hos.2.2.2.2.2.1, hos.2.2.2.2.2.2.1]; exact T j q
   have hfr : ∀ t, World.freeze { u with tape := t } a n = { u.freeze a n with tape := t } := fun t => by simp [World.freeze, if_neg hn]
   refine (ih es fs W1 T1 e).map (Ren.le_refl _) (fun _ _ L => ⟨by rw [<- hos.2.2.2.2.2.1]; exact L.drawn, L.tape.trans hos.2.2.1, fun t ht => by
     simp only [Sem.runT]
     rw [hfr]
     exact L.moved t fun d q h1 h2 => by rw [hos.2.2.1]; exact ht d q (by rw [hos.2.2.2.2.2.1] at h1; exact h1) h2⟩) fun x u' b w' π' gs r1 r2 r3 r4 r5 => ?_
   have E0 : Eff π π w (w.freeze a' n) [] := by
     refine ⟨Ren.le_refl π, by rw [hos.2.2.2.2.2.2.2]; exact Nat.le_refl _, fun b' _ hnn => hw1 b' fun e => hnn _ (e ▸ ha.1), fun x x' hx hxx => hw1 x' fun e => ?_, fun x _ => ?_, fun _ _ h => .inl h, hos.2.1, hos.2.2.2.1, hos.2.2.2.2.1, fun _ h => by cases h⟩
     · subst e; exact hns (W.inj _ _ _ hxx ha.1 ▸ hx)
     · by_cases hx : x = a'.block
       · subst hx; exact h7
       · simp only [World.shape?, hw1 x hx]
   exact ⟨b, w', π', gs, by simp only [Sem.runT]; exact r1, r2, r3, r4, by simpa using E0.trans r5⟩
 | @shape π r r' k k' hr _ ih =>
   intro u w es fs rr es' W T e
   simp only [Sem.runT] at e
   exact (ih _ es fs W T e).map (Ren.le_refl _) (fun _ _ L => ⟨L.drawn, L.tape, fun t ht => by simp only [Sem.runT]; exact L.moved t ht⟩) fun x u' b w' π' gs r1 r2 r3 r4 r5 => ⟨b, w', π', gs, by simp only [Sem.runT]; rw [<- shape_rel W hr]; exact r1, r2, r3, r4, r5⟩
 | @getObj π r r' k k' hr _ ih =>
   intro u w es fs rr es' W T e
   obtain ⟨o, o', e1, e2, ho, hw⟩ := W.obj _ _ hr
   by_cases hcell : ∃ c t f, o = .cells c t f
   · obtain ⟨c, t, f, rfl⟩ := hcell
     simp only [Sem.runT, e1, Prod.mk.injEq] at e
     rw [<- e.1]
     exact ⟨True.intro, W.idle⟩
   have hne : ∀ c t f, o ≠ .cells c t f := fun c t f h => hcell ⟨c, t, f, h⟩
   have hne' : ∀ c t f, o' ≠ .cells c t f := fun c t f h => by
     subst h
     cases o <;> simp only [ORel] at ho
     exact hne _ _ _ rfl
   have hch : o.isChan = false /\ o'.isChan = false := by cases o <;> cases o' <;> simp only [ORel] at ho <;> exact ⟨rfl, rfl⟩
   have ee : (k o).runT P u (es.push ⟨.obj r, false, o.isChan⟩) = (rr, es') := by
     revert e
     simp only [Sem.runT, e1]
     cases o <;> first | exact id | exact fun h => absurd rfl (hne _ _ _)
   have hgo : ∀ t, (Sem.getObj r k).runT P { u with tape := t } es = (k o).runT P { u with tape := t } (es.push ⟨.obj r, false, o.isChan⟩) := fun t => by
     simp only [Sem.runT, e1]
   refine (ih o o' ho _ (fs.push ⟨.obj r', false, false⟩) W T ee).map (Ren.le_refl _) (fun _ _ L => ⟨L.drawn, L.tape, fun t ht => by rw [hgo]; exact L.moved t ht⟩) fun x u' b w' π' gs r1 r2 r3 r4 r5 => ?_
   refine ⟨b, w', π', ⟨.obj r', false, false⟩ :: gs, ?_, r2, r3, r4, ?_⟩
   · have : (Sem.getObj r' k').runT P w fs = (k' o').runT P w (fs.push ⟨.obj r', false, o'.isChan⟩) := by
       simp only [Sem.runT, e2]
     rw [this, hch.2, r1]
     simp
   · refine ⟨r5.le, r5.size, r5.out, r5.still, r5.shape, r5.new, r5.os, r5.tape, r5.output, fun e he => ?_⟩
     rcases List.mem_cons.1 he with rfl | he
     · exact .inr (.inl ⟨r', r, false, rfl, r5.le _ _ hr, fun h => by cases h⟩)
     · exact r5.evs e he
 | @setObj π r r' o o' k k' hr ho hnc hns _ ih =>
   intro u w es fs rr es' W T e
   obtain ⟨p, p', e1, e2, hp, hw⟩ := W.obj _ _ hr
   by_cases hcell : ∃ c t f, p = .cells c t f
   · obtain ⟨c, t, f, rfl⟩ := hcell
     simp only [Sem.runT, e1, Prod.mk.injEq] at e
     rw [<- e.1]
     exact ⟨True.intro, W.idle⟩
   have hne : ∀ c t f, p ≠ .cells c t f := fun c t f h => hcell ⟨c, t, f, h⟩
   have hne' : ∀ c t f, p' ≠ .cells c t f := fun c t f h => by
     subst h
     cases p <;> simp only [ORel] at hp
     exact hne _ _ _ rfl
   have hch : o.isChan = false /\ o'.isChan = false := by cases o <;> cases o' <;> simp only [ORel] at ho <;> exact ⟨rfl, rfl⟩
   have hic : ice o = ice o' := by
     cases o <;> first | exact absurd rfl (hnc _ _ _) | skip
     all_goals cases o' <;> simp only [ORel] at ho <;> rfl
   have ee : k.runT P { u with heap := u.heap.setIfInBounds r o } (es.push ⟨.obj r, true, o.isChan⟩) = (rr, es') := by
     revert e
     simp only [Sem.runT, e1]
     cases p <;> first | exact id | exact fun h => absurd rfl (hne _ _ _)
   have hlt := W.size hr
   have hu1 : ∀ y, y ≠ r -> (u.heap.setIfInBounds r o)[y]? = u.heap[y]? := fun y hy => Array.getElem?_setIfInBounds_ne (Ne.symm hy)
   have hw1 : ∀ y, y ≠ r' -> (w.heap.setIfInBounds r' o')[y]? = w.heap[y]? := fun y hy => Array.getElem?_setIfInBounds_ne (Ne.symm hy)
   have hu2 : (u.heap.setIfInBounds r o)[r]? = some o := Array.getElem?_setIfInBounds_self_of_lt hlt.1
   have hw2 : (w.heap.setIfInBounds r' o')[r']? = some o' := Array.getElem?_setIfInBounds_self_of_lt hlt.2
   have W1 : WRel π { u with heap := u.heap.setIfInBounds r o } { w with heap := w.heap.setIfInBounds r' o' } := W.turn hr hu1 hw1 W.os
     ⟨_, _, hu2, hw2, ho, .inl hic.symm⟩ (fun x => absurd x hns)
   have hgo : ∀ t, (Sem.setObj r o k).runT P { u with tape := t } es = k.runT P { u with tape := t, heap := u.heap.setIfInBounds r o } (es.push ⟨.obj r, true, o.isChan⟩) := fun t => by
     simp only [Sem.runT, e1]
   refine (ih _ (fs.push ⟨.obj r', true, false⟩) W1 T ee).map (Ren.le_refl _) (fun _ _ L => ⟨L.drawn, L.tape, fun t ht => by rw [hgo]; exact L.moved t ht⟩) fun x u' b w' π' gs r1 r2 r3 r4 r5 => ?_
   have E0 : Eff π π w { w with heap := w.heap.setIfInBounds r' o' } [] := by
     refine ⟨Ren.le_refl π, by simp, fun b' _ hn => hw1 b' fun e => hn _ (e ▸ hr), fun y y' hy hyy => hw1 y' fun e => ?_, fun y _ => ?_, fun _ _ h => .inl h, rfl, rfl, rfl, fun _ h => by cases h⟩
     · subst e; exact hns (W.inj _ _ _ hyy hr ▸ hy)
     · by_cases hy : y = r'
       · subst hy
         have n1 : ∀ c t f, o' ≠ .cells c t f := fun c t f h => by
           subst h
           cases o <;> simp only [ORel] at ho
           exact hnc _ _ _ rfl
         simp only [World.shape?, hw2, e2]
         cases o' <;> cases p' <;> first | rfl | exact absurd rfl (n1 _ _ _) | exact absurd rfl (hne' _ _ _)
       · simp only [World.shape?, hw1 y hy]
   refine ⟨b, w', π', ⟨.obj r', true, false⟩ :: gs, ?_, r2, r3, r4, ?_⟩
   · have : (Sem.setObj r' o' k').runT P w fs = k'.runT P { w with heap := w.heap.setIfInBounds r' o' } (fs.push ⟨.obj r', true, o'.isChan⟩) := by
       simp only [Sem.runT, e2]
     rw [this, hch.2, r1]
     simp
   · have r6 := E0.trans r5
     refine ⟨r6.le, r6.size, r6.out, r6.still, r6.shape, r6.new, r6.os, r6.tape, r6.output, fun e he => ?_⟩
     rcases List.mem_cons.1 he with rfl | he
     · exact .inr (.inl ⟨r', r, true, rfl, r5.le _ _ hr, fun _ => hns⟩)
     · exact r5.evs e he
 | @choose π q k k' _ ih =>
   intro u w es fs rr es' W T e
   simp only [Sem.runT] at e
   split at e
   · rename_i hq
     exact (ih 0 es fs W T e).map (Ren.le_refl _) (fun _ _ L => ⟨L.drawn, L.tape, fun t ht => by simp only [Sem.runT]; rw [if_pos hq]; exact L.moved t ht⟩) fun x u' b w' π' gs r1 r2 r3 r4 r5 => ⟨b, w', π', gs, by simp only [Sem.runT]; rw [if_pos hq]; exact r1, r2, r3, r4, r5⟩
   · rename_i hq
     have hT : u.tape u.drawn q = w.tape w.drawn q := by simpa using T 0 q
     rw [hT] at e
     have T' : Tapes { u with drawn := u.drawn + 1 } { w with drawn := w.drawn + 1 } := fun j p => by
       have := T (j + 1) p
       simp only [Nat.add_assoc, Nat.add_comm 1 j] at this ⊢
       exact this
     refine (ih _ es fs (W.same (u' := { u with drawn := u.drawn + 1 }) (w' := { w with drawn := w.drawn + 1 }) rfl rfl W.os) T' e).map (Ren.le_refl _) (fun _ _ L => ⟨Nat.le_trans (Nat.le_succ _) L.drawn, L.tape, fun t ht => by
       have hd : u.drawn + 1 <= _ := L.drawn
       simp only [Sem.runT]
       rw [if_neg hq, ht u.drawn q (Nat.le_refl _) (by omega), hT]
       exact L.moved t fun d q h1 h2 => ht d q (Nat.le_of_succ_le h1) h2⟩) fun x u' b w' π' gs r1 r2 r3 r4 r5 => ?_
     exact ⟨b, w', π', gs, by simp only [Sem.runT]; rw [if_neg hq]; exact r1, r2, r3, r4, ⟨r5.le, r5.size, r5.out, r5.still, r5.shape, r5.new, r5.os, r5.tape, r5.output, r5.evs⟩⟩
 | @program π k k' _ ih =>
   intro u w es fs rr es' W T e
   simp only [Sem.runT] at e
   exact (ih es fs W T e).map (Ren.le_refl _) (fun _ _ L => ⟨L.drawn, L.tape, fun t ht => by simp only [Sem.runT]; exact L.moved t ht⟩) fun x u' b w' π' gs r1 r2 r3 r4 r5 => ⟨b, w', π', gs, by simp only [Sem.runT]; exact r1, r2, r3, r4, r5⟩
 | @mark π m k k' hm _ ih =>
   intro u w es fs rr es' W T e
   simp only [Sem.runT] at e
   refine (ih _ (fs.push ⟨.mark m, false, true⟩) W T e).map (Ren.le_refl _) (fun _ _ L => ⟨L.drawn, L.tape, fun t ht => by simp only [Sem.runT]; exact L.moved t ht⟩) fun x u' b w' π' gs r1 r2 r3 r4 r5 => ?_
   refine ⟨b, w', π', ⟨.mark m, false, true⟩ :: gs, by simp only [Sem.runT]; rw [r1]; simp, r2, r3, r4, ?_⟩
   refine ⟨r5.le, r5.size, r5.out, r5.still, r5.shape, r5.new, r5.os, r5.tape, r5.output, fun e he => ?_⟩
   rcases List.mem_cons.1 he with rfl | he
   · exact .inr (.inr ⟨m, rfl, hm⟩)
   · exact r5.evs e he
end
section
variable [Env] {P : Program} {α β γ δ : Type} {Q : Ren -> γ -> δ -> Prop} {π : Ren}
def Closed (v : Value) : Prop := ∀ π, VRel π v v
structure POk (P : Program) : Prop where
 low : P.globals.size <= Env.low
 zero : ∀ t i v, t < P.types.size -> P.info? t = some i -> i.zero = some v -> Closed v
theorem go_stuck {s : String} {f : α -> Sem γ} {y : Sem δ} : SRel P Q π ((stuck s : Sem α) >>= f) y := SRel.halt
theorem go_unsupported {s : Unsupported} {f : α -> Sem γ} {y : Sem δ} (m : Mild (.unsupported s) := by trivial) : SRel P Q π ((unsupported s : Sem α) >>= f) y := SRel.halt m
theorem go_pure {a : α} {b : β} {f : α -> Sem γ} {g : β -> Sem δ} (h : SRel P Q π (f a) (g b)) : SRel P Q π ((pure a : Sem α) >>= f) ((pure b : Sem β) >>= g) := h
theorem go_program {f : Program -> Sem γ} {g : Program -> Sem δ} (h : SRel P Q π (f P) (g P)) : SRel P Q π (program >>= f) (program >>= g) := SRel.program h
theorem go_load {a a' : Addr} {f : Value -> Sem γ} {g : Value -> Sem δ} (ha : ARel π a a') (h : ∀ v v', VRel π v v' -> SRel P Q π (f v) (g v')) : SRel P Q π (load a >>= f) (load a' >>= g) := SRel.load ha h
theorem go_store {a a' : Addr} {v v' : Value} {f : Unit -> Sem γ} {g : Unit -> Sem δ} (ha : ARel π a a') (hv : VRel π v v') (h : SRel P Q π (f ()) (g ())) : SRel P Q π (store a v >>= f) (store a' v' >>= g) := SRel.store ha hv h
theorem go_newObj {o o' : Obj} {f : Nat -> Sem γ} {g : Nat -> Sem δ} (ho : ORel π o o') (hi : ice o = ice o') (h : ∀ r r', π r = none -> ¬ Env.sealed r -> Env.low <= r -> SRel P Q (π.upd r r') (f r) (g r')) : SRel P Q π (newObj o >>= f) (newObj o' >>= g) := SRel.new ho hi h
theorem go_shape {r r' : Nat} {f : Option (TypeId × Nat) -> Sem γ} {g : Option (TypeId × Nat) -> Sem δ} (hr : π r = some r') (h : ∀ s, SRel P Q π (f s) (g s)) : SRel P Q π (shape r >>= f) (shape r' >>= g) := SRel.shape hr h
theorem go_getObj {r r' : Nat} {f : Obj -> Sem γ} {g : Obj -> Sem δ} (hr : π r = some r') (h : ∀ o o', ORel π o o' -> SRel P Q π (f o) (g o')) : SRel P Q π (getObj r >>= f) (getObj r' >>= g) := SRel.getObj hr h
theorem go_choose {q : Question} {f : Nat -> Sem γ} {g : Nat -> Sem δ} (h : ∀ n, SRel P Q π (f n) (g n)) : SRel P Q π (choose q >>= f) (choose q >>= g) := SRel.choose h
theorem go_noRoom {f : Unit -> Sem γ} {g : Unit -> Sem δ} (h : SRel P Q π (f ()) (g ())) : SRel P Q π (mark .noRoom >>= f) (mark .noRoom >>= g) := SRel.mark (.inl rfl) h
theorem go_askRoom {n : Nat} {f : Unit -> Sem γ} {g : Unit -> Sem δ} (h : SRel P Q π (f ()) (g ())) : SRel P Q π (askRoom n >>= f) (askRoom n >>= g) := by
 unfold askRoom
 split
 · exact go_noRoom h
 · exact go_pure h
theorem go_typeInfo {t : TypeId} {f : TypeInfo -> Sem γ} {g : TypeInfo -> Sem δ} (h : ∀ i, P.info? t = some i -> SRel P Q π (f i) (g i)) : SRel P Q π (typeInfo t >>= f) (typeInfo t >>= g) := by
 unfold typeInfo
 rw [bind_assoc, bind_assoc]
 refine go_program ?_
 cases e : P.info? t with
 | none => simp only []; exact go_stuck
 | some i => simp only []; exact h i e
theorem go_underlying {t : TypeId} {f : TypeDesc -> Sem γ} {g : TypeDesc -> Sem δ} (h : ∀ i, P.underlying t = some i -> SRel P Q π (f i) (g i)) : SRel P Q π (underlying t >>= f) (underlying t >>= g) := by
 unfold Go.underlying
 rw [bind_assoc, bind_assoc]
 refine go_program ?_
 cases e : P.underlying t with
 | none => simp only []; exact go_stuck
 | some i => simp only []; exact h i e
theorem go_sizeOf {t : TypeId} {f : Nat -> Sem γ} {g : Nat -> Sem δ} (h : ∀ n, SRel P Q π (f n) (g n)) : SRel P Q π (sizeOf t >>= f) (sizeOf t >>= g) := by
 show SRel P Q π ((typeInfo t >>= fun i => pure i.size) >>= f) ((typeInfo t >>= fun i => pure i.size) >>= g)
 rw [bind_assoc, bind_assoc]
 exact go_typeInfo fun i _ => h i.size
theorem go_isAgg {t : TypeId} {f : Bool -> Sem γ} {g : Bool -> Sem δ} (h : ∀ n, SRel P Q π (f n) (g n)) : SRel P Q π (isAgg t >>= f) (isAgg t >>= g) := by
 unfold isAgg
 rw [bind_assoc, bind_assoc]
 refine go_underlying fun d _ => ?_
 split <;> exact h _
theorem go_zeroValue (ok : POk P) {t : TypeId} (ht : t < P.types.size) {f : Value -> Sem γ} {g : Value -> Sem δ} (h : ∀ v, Closed v -> SRel P Q π (f v) (g v)) : SRel P Q π (zeroValue t >>= f) (zeroValue t >>= g) := by
 unfold zeroValue
 rw [bind_assoc, bind_assoc]
 refine go_typeInfo fun i hi => ?_
 cases e : i.zero with
 | none => simp only []; exact SRel.halt
 | some v => simp only []; exact h v (ok.zero _ _ _ ht hi e)
theorem go_loadCellsFrom {a a' : Addr} (ha : ARel π a a') {f : Array Value -> Sem γ} {g : Array Value -> Sem δ} (h : ∀ cs cs', VsRel π cs cs' -> SRel P Q π (f cs) (g cs')) : ∀ (n i : Nat) {acc acc' : Array Value}, VsRel π acc acc' -> SRel P Q π (loadCellsFrom a i n acc >>= f) (loadCellsFrom a' i n acc' >>= g)
 | 0, _, _, _, hacc => h _ _ hacc
 | n + 1, i, acc, acc', hacc => by
   simp only [loadCellsFrom]
   rw [bind_assoc, bind_assoc]
   exact go_load (ha.add i) fun v v' hv => go_loadCellsFrom ha h n (i + 1) (hacc.push hv)
theorem go_loadCells {a a' : Addr} (ha : ARel π a a') {n : Nat} {f : Array Value -> Sem γ} {g : Array Value -> Sem δ} (h : ∀ cs cs', VsRel π cs cs' -> SRel P Q π (f cs) (g cs')) : SRel P Q π (loadCells a n >>= f) (loadCells a' n >>= g) := go_loadCellsFrom ha h n 0 (.empty π)
inductive LsRel (π : Ren) : List Value -> List Value -> Prop
 | nil : LsRel π [] []
 | cons {v v' : Value} {l l' : List Value} : VRel π v v' -> LsRel π l l' -> LsRel π (v :: l) (v' :: l')
theorem LsRel.of_get {π : Ren} : ∀ {l l' : List Value}, l.length = l'.length -> (∀ (i : Nat) v v', l[i]? = some v -> l'[i]? = some v' -> VRel π v v') -> LsRel π l l'
 | [], [], _, _ => .nil
 | a :: l, b :: l', e, h => .cons (h 0 a b rfl rfl) (LsRel.of_get (by simpa using e) fun i v v' h1 h2 => h (i + 1) v v' (by simpa using h1) (by simpa using h2))
theorem VsRel.toList {π : Ren} {c c' : Array Value} (h : VsRel π c c') : LsRel π c.toList c'.toList := by
 refine .of_get (by simpa using h.1) fun i v v' h1 h2 => ?_
 rcases h.get? i with ⟨e1, _⟩ | ⟨x, x', e1, e2, hx⟩
 · rw [Array.getElem?_toList, e1] at h1; cases h1
 · rw [Array.getElem?_toList, e1] at h1; rw [Array.getElem?_toList, e2] at h2; cases h1; cases h2; exact hx
theorem go_storeCells {a a' : Addr} (ha : ARel π a a') {f : Unit -> Sem γ} {g : Unit -> Sem δ} (h : SRel P Q π (f ()) (g ())) : ∀ {l l' : List Value} (i : Nat), LsRel π l l' -> SRel P Q π (storeCells a l i >>= f) (storeCells a' l' i >>= g)
 | [], _, i, .nil => by simp only [storeCells]; exact h
 | v :: l, _, i, .cons hv hl => by
   simp only [storeCells]
   rw [bind_assoc, bind_assoc]
   exact go_store (ha.add i) hv (go_storeCells ha h (i + 1) hl)
theorem go_loadVar {t : TypeId} {a a' : Addr} (ha : ARel π a a') {f : Value -> Sem γ} {g : Value -> Sem δ} (h : ∀ v v', VRel π v v' -> SRel P Q π (f v) (g v')) : SRel P Q π (loadVar t a >>= f) (loadVar t a' >>= g) := by
 unfold loadVar
 rw [bind_assoc, bind_assoc]
 refine go_isAgg fun b => ?_
 cases b
 · simp only [Bool.false_eq_true, if_false]; exact go_load ha h
 · simp only [if_true]
   rw [bind_assoc, bind_assoc]
   refine go_sizeOf fun n => ?_
   rw [bind_assoc, bind_assoc]
   exact go_loadCells ha fun cs cs' hc => h _ _ (.agg hc.1 hc.2)
theorem go_storeVar {t : TypeId} {a a' : Addr} {v v' : Value} (ha : ARel π a a') (hv : VRel π v v') {f : Unit -> Sem γ} {g : Unit -> Sem δ} (h : SRel P Q π (f ()) (g ())) : SRel P Q π (storeVar t a v >>= f) (storeVar t a' v' >>= g) := by
 unfold storeVar
 rw [bind_assoc, bind_assoc]
 refine go_sizeOf fun n => ?_
 rw [<- hv.cells.1]
 split
 · exact go_stuck
 · exact go_storeCells ha h 0 hv.cells.toList
theorem go_newRow {t : TypeId} {c c' : Array Value} (hc : VsRel π c c') {f : Addr -> Sem γ} {g : Addr -> Sem δ} (h : ∀ r r', π r = none -> ARel (π.upd r r') ⟨r, 0, none⟩ ⟨r', 0, none⟩ -> SRel P Q (π.upd r r') (f ⟨r, 0, none⟩) (g ⟨r', 0, none⟩)) : SRel P Q π (newRow t c >>= f) (newRow t c' >>= g) := by
 unfold newRow
 rw [bind_assoc, bind_assoc]
 exact go_newObj ⟨hc, rfl⟩ rfl fun r r' hr _ hl => h r r' hr ⟨Ren.upd_same π r r', rfl, rfl, hl⟩
theorem go_newVar {t : TypeId} {v v' : Value} (hv : VRel π v v') {f : Addr -> Sem γ} {g : Addr -> Sem δ} (h : ∀ r r', π r = none -> ARel (π.upd r r') ⟨r, 0, none⟩ ⟨r', 0, none⟩ -> SRel P Q (π.upd r r') (f ⟨r, 0, none⟩) (g ⟨r', 0, none⟩)) : SRel P Q π (newVar t v >>= f) (newVar t v' >>= g) := go_newRow hv.cells h
theorem go_sureAddr {v v' : Value} (hv : VRel π v v') {f : Addr -> Sem γ} {g : Addr -> Sem δ} (h : ∀ a a', ARel π a a' -> SRel P Q π (f a) (g a')) : SRel P Q π (Instr.sureAddr v >>= f) (Instr.sureAddr v' >>= g) := by
 cases hv with
 | pointer ha => exact h _ _ ha
 | _ => exact go_stuck
theorem go_asIntOf {v v' : Value} (hv : VRel π v v') {f : IntKind × Int -> Sem γ} {g : IntKind × Int -> Sem δ} (h : ∀ k n, SRel P Q π (f (k, n)) (g (k, n))) : SRel P Q π (asIntOf v >>= f) (asIntOf v' >>= g) := by
 cases hv with
 | int k n => exact h k n
 | pointer ha => exact go_unsupported
 | _ => exact go_stuck
theorem go_asInt {v v' : Value} (hv : VRel π v v') {f : Int -> Sem γ} {g : Int -> Sem δ} (h : ∀ n, SRel P Q π (f n) (g n)) : SRel P Q π (asInt v >>= f) (asInt v' >>= g) := by
 unfold asInt
 rw [bind_assoc, bind_assoc]
 exact go_asIntOf hv fun k n => h n
theorem go_asBool {v v' : Value} (hv : VRel π v v') {f : Bool -> Sem γ} {g : Bool -> Sem δ} (h : ∀ n, SRel P Q π (f n) (g n)) : SRel P Q π (asBool v >>= f) (asBool v' >>= g) := by
 cases hv with
 | bool b => exact h b
 | _ => exact go_stuck
end
end Go.Eq
