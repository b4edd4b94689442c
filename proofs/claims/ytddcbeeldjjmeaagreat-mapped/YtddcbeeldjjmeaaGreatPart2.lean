/- An ordinary step keeps the invariant. -/
import Derived.Test.YtddcbeeldjjmeaaGreatPart1
namespace Go.Nest
open Go Go.Conc
open Go.ConcR (KK WgAt wgBlock stA smA wr mk)
open Go.ConcN (WgLive sumTo upd sumTo_upd upd_ne upd_same sumTo_congr)
section
variable {ty : TypeId} {P : Program} {Fin : Perm -> Perm -> Goroutine -> World -> Prop} {Shun : Go.Loc -> Prop} {lo : Nat} {Z : Nat -> Prop} {w₀ : World} {G G' : Ghost} {gs : Array Goroutine} {t u : Trace} {w w' : World}
theorem Role.cfg_stg {r : Role} {c : Cfg} (h : r.cfg? = some c) : ∃ s, r.stg? = some s := by
 revert h
 cases r with
 | act n s c => simp only [Role.cfg?, Role.stg?]; split <;> simp
 | blk n c => simp [Role.stg?]
 | quit q => simp [Role.cfg?]
theorem Inv.curW (I : Inv ty P Fin Shun lo Z w₀ G gs w t) {j z : Nat} {c : Cfg} (hj : j < gs.size) (hc : (G.role j).cfg? = some c) (hz : c.cur = some z) : G.W z = some j := by
 have hg := I.group j hj
 unfold GroupOk at hg
 obtain ⟨s, hs⟩ := Role.cfg_stg hc
 rw [hc, hs] at hg
 simp only [hz] at hg
 exact hg.1
theorem Inv.parent (I : Inv ty P Fin Shun lo Z w₀ G gs w t) {p k : Nat} (hk : k ∈ G.kids p) : ∃ c s z v, p < gs.size /\ (G.role p).cfg? = some c /\ (G.role p).stg? = some s /\ c.cur = some z /\ G.W z = some p /\ (G.kids p).Nodup /\ Mode ty G w p z c s /\ KidOk G gs.size t w z p k v := by
 have hp : p < gs.size := by
   rcases Nat.lt_or_ge p gs.size with h | h
   · exact h
   · rw [I.bare p h] at hk; cases hk
 have hg := I.group p hp
 unfold GroupOk at hg
 cases hc : (G.role p).cfg? with
 | none => rw [hc] at hg; simp only at hg; rw [hg] at hk; cases hk
 | some c =>
   obtain ⟨s, hs⟩ := Role.cfg_stg hc
   rw [hc, hs] at hg
   simp only at hg
   cases hz : c.cur with
   | none => rw [hz] at hg; simp only at hg; rw [hg.1] at hk; cases hk
   | some z =>
     rw [hz] at hg
     simp only at hg
     obtain ⟨h1, _, h3, h4, h5⟩ := hg
     obtain ⟨v, _, hv⟩ := h3.get hk
     exact ⟨c, s, z, v, hp, rfl, hs, hz, h1, h4, h5, hv⟩
theorem Inv.holds (I : Inv ty P Fin Shun lo Z w₀ G gs w t) {j : Nat} {c : Cfg} (hj : j < gs.size) (hc : (G.role j).all? = some c) : (G.H j).isSome = true /\ (∀ a, c.own a -> G.own j a) /\ (∀ a, c.rd a -> G.rd j a) /\ (c.up = none ↔ j = 0) /\
   (∀ z, c.cur = some z -> (G.W z).isSome = true) := by
 obtain ⟨g, _, hl⟩ := I.loc j hj
 have hcur : ∀ c', (G.role j).cfg? = some c' -> ∀ z, c'.cur = some z -> (G.W z).isSome = true := fun c' h z hz => by rw [I.curW hj h hz]; rfl
 cases hr : G.role j with
 | act n s c₂ =>
   rw [hr] at hl hc hcur
   cases hc
   obtain ⟨h1, h2, h3, h4, h5⟩ := hl
   cases he : s.early with
   | true =>
     rw [he] at h5
     simp only [if_true] at h5
     exact ⟨by rw [h5.1]; rfl, fun a h => by rw [h5.2.1]; exact h, fun a h => by rw [h5.2.2]; exact h, h4, hcur c (by simp [Role.cfg?, he])⟩
   | false =>
     rw [he] at h5
     simp only [Bool.false_eq_true, if_false] at h5
     obtain ⟨⟨r, h5⟩, h6, h7⟩ := h5
     exact ⟨by rw [h5]; rfl, fun a h => absurd h (h7 a).1, fun a h => absurd h (h7 a).2, h4, fun z hz => by rw [h6] at hz; cases hz⟩
 | blk n c₂ =>
   rw [hr] at hl hc hcur
   cases hc
   obtain ⟨_, _, _, _, _, h6, h7, h8, h9⟩ := hl
   exact ⟨by rw [h7]; rfl, fun a h => by rw [h8]; exact h, fun a h => by rw [h9]; exact h, h6, hcur c rfl⟩
 | quit q => rw [hr] at hc; cases hc
theorem Inv.up (I : Inv ty P Fin Shun lo Z w₀ G gs w t) {j z : Nat} {c : Cfg} {v : Vow} (hj : j < gs.size) (hc : (G.role j).all? = some c) (hup : c.up = some (z, v)) : ∃ cp s, G.par j < j /\ j ∈ G.kids (G.par j) /\ (G.role (G.par j)).cfg? = some cp /\ (G.role (G.par j)).stg? = some s /\ cp.cur = some z /\ G.W z = some (G.par j) /\
   (G.kids (G.par j)).Nodup /\ Mode ty G w (G.par j) z cp s /\ KidOk G gs.size t w z (G.par j) j v := by
 obtain ⟨h1, _, _, h4, _⟩ := I.holds hj hc
 have hj0 : j ≠ 0 := fun e => by rw [h4.2 e] at hup; cases hup
 have hk := I.child j hj0 (fun e => by rw [e] at h1; cases h1)
 obtain ⟨cp, s, z', v', hp, hcp, hs, hz, hW, hn, hm, hko⟩ := I.parent hk
 have hup' : some (z', v') = some (z, v) := by
   obtain ⟨_, _, _, h⟩ := hko
   revert h
   cases hr : G.role j with
   | act n s c₂ =>
     rw [hr] at hc
     cases hc
     cases s <;> simp only [Role.ks] <;> intro h <;> first | exact (h.1.symm.trans hup) | exact (h.symm.trans hup)
   | blk n c₂ =>
     rw [hr] at hc
     cases hc
     simp only [Role.ks]
     exact fun h => h.symm.trans hup
   | quit q => rw [hr] at hc; cases hc
 cases hup'
 exact ⟨cp, s, hko.1, hk, hcp, hs, hz, hW, hn, hm, hko⟩
theorem Inv.alone (I : Inv ty P Fin Shun lo Z w₀ G gs w t) {c : Cfg} (h0 : (G.role 0).cfg? = some c) (hcur : c.cur = none) : ∀ k, k ≠ 0 -> G.H k = none := by
 have hk0 : G.kids 0 = [] := by
   have hg := I.group 0 I.first
   unfold GroupOk at hg
   obtain ⟨s, hs⟩ := Role.cfg_stg h0
   rw [h0, hs] at hg
   simp only [hcur] at hg
   exact hg.1
 intro k
 induction k using Nat.strongRecOn with
 | _ k ih =>
   intro hk
   cases hH : G.H k with
   | none => rfl
   | some h =>
     have hkid := I.child k hk (by rw [hH]; simp)
     obtain ⟨cp, s, z, v, hp, hcp, _, _, _, _, _, hko⟩ := I.parent hkid
     by_cases e : G.par k = 0
     · rw [e, hk0] at hkid; cases hkid
     · have hn := ih (G.par k) hko.1 e
       have hall : ∃ c', (G.role (G.par k)).all? = some c' := by
         revert hcp
         cases G.role (G.par k) with
         | act n s c => exact fun _ => ⟨c, rfl⟩
         | blk n c => exact fun _ => ⟨c, rfl⟩
         | quit q => simp [Role.cfg?]
       obtain ⟨c', hc'⟩ := hall
       have := (I.holds hp hc').1
       rw [hn] at this; cases this
theorem Inv.relyOrd (I : Inv ty P Fin Shun lo Z w₀ G gs w t) {i : Nat} {c c' : Cfg} {es : Array Event} (hHi : (G.H i).isSome = true) (hown : G.own i = c.own) (O : Ord ty c c' w w' es) {j : Nat} {cj : Cfg} (hij : j ≠ i) (hj : j < gs.size) (hc : (G.role j).all? = some cj) : Rely ty cj w w' := by
 obtain ⟨h1, h2, h3, _, h5⟩ := I.holds hj hc
 refine ord_rely O (fun a ha => ?_) (fun a ha => ?_) (fun z hz => ?_)
 · have := I.sep i j a (Ne.symm hij) hHi h1 (by rw [hown]; exact ha)
   exact ⟨fun x => this.1 (h2 a x), fun x => this.2 (h3 a x)⟩
 · exact (I.base.low j a h1 (ha.imp (h2 a) (h3 a))).1
 · have hW : (G.W z).isSome = true := by
     rcases hz with hz | ⟨v, hz⟩
     · exact h5 z hz
     · obtain ⟨_, _, _, _, _, _, _, hW, _⟩ := I.up hj hc hz
       rw [hW]; rfl
   obtain ⟨p, hp⟩ := Option.isSome_iff_exists.1 hW
   refine ⟨(I.base.groups z p hp).2, fun o ho => ?_⟩
   have := I.free i ⟨z, o, none⟩ hHi (.inl (by rw [hown]; exact ho))
   simp only at this
   rw [this] at hp; cases hp
theorem step_ordW (I : Inv ty P Fin Shun lo Z w₀ G gs w t) {i : Nat} {ι : Type} {f : ι -> Tree} {n : ι} {s : Stg} {c c' : Cfg} {g g' : Goroutine} {es : Array Event} {W' : Nat -> Option Nat} (hi : gs[i]? = some g) (hr : G.role i = .act (.node ι f) s c) (he : s.early = true)
   (O : Ord ty c c' w w' es) (hs' : Script ty P Fin (f n) s c' g' w')
   (hW1 : ∀ b p, W' b = some p -> G.W b = some p ∨ (p = i /\ c.cur = none /\ c'.cur = some b /\ w.heap.size <= b /\ b < w'.heap.size)) (hW2 : ∀ b, (G.W b).isSome = true -> W' b = G.W b)
   (hW3 : c'.cur = c.cur ∨ (c.cur = none /\ ∃ z, c'.cur = some z /\ w.heap.size <= z /\ W' z = some i /\ (∀ b, b ≠ z -> W' b = G.W b) /\ z < w'.heap.size /\ WgAt ty z w' 0 0 /\ c.pend = false /\ c.kids = [] /\ ∀ a, c'.own a ∨ c'.rd a -> a.block ≠ z))
   (hW4 : c'.cur = c.cur -> W' = G.W) :
   ∃ G', Lt3 (mu G' gs.size) (mu G gs.size) /\ Inv ty P Fin Shun lo Z w₀ G' ((gs.map (woken P g g' w')).setIfInBounds i g') w' (t ++ MemOp.ofEvents i g.frame.fn g.frame.place es) := by
 have hlt : i < gs.size := (Array.getElem?_eq_some_iff.1 hi).1
 obtain ⟨x, hx, hl⟩ := I.loc i hlt
 rw [hi] at hx; cases hx
 rw [hr] at hl
 obtain ⟨hs, hmain, hdeaf, hup, hH⟩ := hl
 rw [he] at hH
 simp only [if_true] at hH
 obtain ⟨hH, hown, hrd⟩ := hH
 have hHs : (G.H i).isSome = true := by rw [hH]; rfl
 have hWf : ∀ b, w.heap.size <= b -> G.W b = none := fun b hb => by
   cases h : G.W b with
   | none => rfl
   | some p => have := (I.base.groups b p h).2; omega
 have hWn : ∀ b, G.W b = none -> ¬ (c.cur = none /\ c'.cur = some b /\ w.heap.size <= b) -> W' b = none := fun b hb hn => by
   cases h : W' b with
   | none => rfl
   | some p =>
     rcases hW1 b p h with h' | ⟨_, h2, h3, h4, _⟩
     · rw [hb] at h'; cases h'
     · exact absurd ⟨h2, h3, h4⟩ hn
 let G' : Ghost := { G with role := fun j => if j = i then .act (f n) s c' else wakeRole (wakes P g g') (G.role j), own := upd G.own i c'.own, rd := upd G.rd i c'.rd, W := W' }
 have hrole : ∀ j, G'.role j = if j = i then .act (f n) s c' else wakeRole (wakes P g g') (G.role j) := fun _ => rfl
 have hne : ∀ j, j ≠ i -> G'.own j = G.own j /\ G'.rd j = G.rd j := fun j hj => ⟨upd_ne _ _ hj, upd_ne _ _ hj⟩
 have hsame : G'.own i = c'.own /\ G'.rd i = c'.rd := ⟨upd_same _ _ _, upd_same _ _ _⟩
 -- i's own cells
 have low : ∀ a, c'.own a ∨ c'.rd a -> W' a.block = none /\ ¬ Z a.block /\ a.block < w'.heap.size := by
   intro a ha
   have h0 : ((c.own a ∨ c.rd a) ∨ w.heap.size <= a.block) /\ a.block < w'.heap.size := by
     rcases ha with h | h
     · exact ⟨by rcases (O.own a h).1 with h | h | ⟨_, _, h⟩ <;> simp [h], (O.own a h).2⟩
     · exact ⟨by rcases (O.rd a h).1 with h | h | h <;> simp [h], (O.rd a h).2⟩
   have hnz : ¬ (c.cur = none /\ c'.cur = some a.block /\ w.heap.size <= a.block) := by
     rintro ⟨h1, h2, _⟩
     rcases hW3 with h | ⟨_, z, hz, _, _, _, _, _, _, _, hza⟩
     · rw [h, h1] at h2; cases h2
     · rw [hz] at h2; cases h2; exact hza a ha rfl
   rcases h0.1 with h | h
   · have := I.base.low i a hHs (h.imp (by rw [hown]; exact id) (by rw [hrd]; exact id))
     exact ⟨hWn _ this.2.1 hnz, this.2.2, h0.2⟩
   · exact ⟨hWn _ (hWf _ h) hnz, fun hz => by have := I.base.zlow _ hz; have := I.base.size; omega, h0.2⟩
 have hrely : ∀ j cj, j ≠ i -> j < gs.size -> (G.role j).all? = some cj -> Rely ty cj w w' := fun j cj hij hj hc => I.relyOrd hHs hown O hij hj hc
 have hal : c.main = true -> c.cur = none -> i = 0 /\ ∀ k, k ≠ i -> G.H k = none := fun h1 h2 => by
   rw [h1] at hmain
   have e0 : i = 0 := by simpa using hmain.symm
   subst e0
   exact ⟨rfl, I.alone (c := c) (by rw [hr]; simp [Role.cfg?, he]) h2⟩
 have base : Base Shun lo Z w₀ G' w' := by
   refine ⟨Nat.le_trans I.base.size O.size, O.os.trans I.base.os, O.tape.trans I.base.tape, O.output.trans I.base.output, fun b p hp => ?_, fun j a hj h => ?_, I.base.zlow, I.base.shun⟩
   · rcases hW1 b p hp with h | ⟨_, _, _, h4, h5⟩
     · exact ⟨(I.base.groups b p h).1, Nat.lt_of_lt_of_le (I.base.groups b p h).2 O.size⟩
     · exact ⟨Nat.le_trans I.base.size h4, h5⟩
   · by_cases e : j = i
     · subst e
       rw [hsame.1, hsame.2] at h
       exact ⟨(low a h).2.2, (low a h).1, (low a h).2.1⟩
     · rw [(hne j e).1, (hne j e).2] at h
       obtain ⟨h1, h2, h3⟩ := I.base.low j a hj h
       exact ⟨Nat.lt_of_lt_of_le h1 O.size, hWn _ h2 (fun x => by have := x.2.2; omega), h3⟩
 have sep : Sep G'.H G'.own G'.rd := by
   intro j k a hjk hj hk ho
   by_cases e : j = i
   · subst e
     rw [hsame.1] at ho
     rw [(hne k (Ne.symm hjk)).1, (hne k (Ne.symm hjk)).2]
     rcases (O.own a ho).1 with h | h | ⟨h1, h2, _⟩
     · exact I.sep j k a hjk hj hk (by rw [hown]; exact h)
     · refine ⟨fun x => ?_, fun x => ?_⟩
       · have := (I.base.low k a hk (.inl x)).1; omega
       · have := (I.base.low k a hk (.inr x)).1; omega
     · have := (hal h1 h2).2 k (Ne.symm hjk)
       have hk' : (G.H k).isSome = true := hk
       rw [this] at hk'; cases hk'
   · rw [(hne j e).1] at ho
     by_cases e2 : k = i
     · subst e2
       rw [hsame.1, hsame.2]
       have hs := I.sep j k a hjk hj hk ho
       have hlo := (I.base.low j a hj (.inl ho)).1
       refine ⟨fun x => ?_, fun x => ?_⟩
       · rcases (O.own a x).1 with h | h | ⟨h1, h2, _⟩
         · exact hs.1 (by rw [hown]; exact h)
         · omega
         · have := (hal h1 h2).2 j hjk
           have hj' : (G.H j).isSome = true := hj
           rw [this] at hj'; cases hj'
       · rcases (O.rd a x).1 with h | h | h
         · exact hs.2 (by rw [hrd]; exact h)
         · exact hs.1 (by rw [hown]; exact h)
         · omega
     · rw [(hne k e2).1, (hne k e2).2]
       exact I.sep j k a hjk hj hk ho
 have okops : ∀ op ∈ MemOp.ofEvents i g.frame.fn g.frame.place es, op.g = i /\ op.act.low w'.heap.size /\ (∀ x, op.act.touch? = some x -> Okt G.own G.rd G.W w.heap.size i x) /\ ∀ a, (G.W a.block).isSome = true -> op.act ≠ .mark (.release a) := by
   intro op hop
   obtain ⟨e, hee, rfl⟩ := Conc.mem_ofEvents hop
   obtain ⟨h1, h2, h3⟩ := O.evs e hee
   refine ⟨rfl, h2, fun x hx => ?_, fun a _ hx => ?_⟩
   · obtain ⟨a, hl, ha, hcase⟩ := h1 x hx
     refine ⟨a, hl, ?_⟩
     rcases hcase with ⟨_, ho | ⟨hr', hw⟩ | ⟨hf, _⟩⟩ | ⟨hk, hz⟩ | ⟨hk, hz⟩
     · exact .inl ⟨(I.base.low i a hHs (.inl (by rw [hown]; exact ho))).2.1, .inl (by rw [hown]; exact ho)⟩
     · exact .inl ⟨(I.base.low i a hHs (.inr (by rw [hrd]; exact hr'))).2.1, .inr (.inl ⟨by rw [hrd]; exact hr', hw⟩)⟩
     · exact .inl ⟨hWf _ hf, .inr (.inr hf)⟩
     · refine .inr (.inl ⟨hk, ?_⟩)
       rcases hz with hz | ⟨v, hz⟩
       · exact (I.holds hlt (by rw [hr]; rfl)).2.2.2.2 _ hz
       · obtain ⟨_, _, _, _, _, _, _, hW, _⟩ := I.up hlt (by rw [hr]; rfl) hz
         rw [hW]; rfl
     · refine .inr (.inr ⟨hk, ?_⟩)
       exact I.curW hlt (c := c) (by rw [hr]; simp [Role.cfg?, he]) hz
   · obtain ⟨loc, wr, sy⟩ := e
     cases loc with
     | mark m =>
       simp only [MemAct.ofEvent] at hx
       cases hx
       exact h3 a rfl
     | obj b => cases wr <;> cases sy <;> simp [MemAct.ofEvent] at hx
     | _ => simp [MemAct.ofEvent] at hx
 have ti1 : TI Shun (t ++ MemOp.ofEvents i g.frame.fn g.frame.place es) G'.H G'.own G'.rd G.W w'.heap.size := by
   have T0 : TI Shun (t ++ MemOp.ofEvents i g.frame.fn g.frame.place es) G'.H (upd G.own i fun a => c'.own a /\ (c.own a ∨ w.heap.size <= a.block)) G'.rd G.W w'.heap.size := by
     refine I.ti.step I.sep hH O.size okops (fun a h => ?_) (fun a h => ?_) (fun j hj => ⟨upd_ne _ _ hj, (hne j hj).2⟩) (fun j a _ hj h => (I.base.low j a hj h).1) I.free
     · rw [upd_same] at h; rw [hown]; exact h.2
     · rw [hsame.2] at h; rw [hown, hrd]
       rcases (O.rd a h).1 with h | h | h
       · exact .inl h
       · exact .inr (.inl h)
       · exact .inr (.inr h)
   by_cases hmc : c.main = true /\ c.cur = none
   · obtain ⟨e0, hn⟩ := hal hmc.1 hmc.2
     subst e0
     refine T0.upgrade hH hn fun a l ha hl => ?_
     rw [hsame.1] at ha
     have h0 : G.W a.block = none /\ ¬ Z a.block := by
       rcases (O.own a ha).1 with h | h | ⟨_, _, h⟩
       · exact (I.base.low 0 a hHs (.inl (by rw [hown]; exact h))).2
       · exact ⟨hWf _ h, fun hz => by have := I.base.zlow _ hz; have := I.base.size; omega⟩
       · exact (I.base.low 0 a hHs (.inr (by rw [hrd]; exact h))).2
     refine ⟨h0.1, fun hs => ?_⟩
     obtain ⟨a', e1, e2⟩ := I.base.shun _ hs
     rw [hl] at e1; cases e1
     exact h0.2 e2
   · refine T0.less (fun j a h => ?_) fun j a h => .inl h
     by_cases e : j = i
     · subst e
       rw [hsame.1] at h
       rw [upd_same]
       refine ⟨h, ?_⟩
       rcases (O.own a h).1 with h' | h' | ⟨h1, h2, _⟩
       · exact .inl h'
       · exact .inr h'
       · exact absurd ⟨h1, h2⟩ hmc
     · rw [(hne j e).1] at h
       rw [upd_ne _ _ e]; exact h
 have ti : TI Shun (t ++ MemOp.ofEvents i g.frame.fn g.frame.place es) G'.H G'.own G'.rd W' w'.heap.size := by
   rcases hW3 with h | ⟨hcn, z, hz, hzs, _, hWz, _⟩
   · rw [hW4 h]; exact ti1
   · refine ti1.group (z := z) (fun j x a hj hl => ?_) (fun op hop a ha e => ?_) hWz
     · rintro rfl
       obtain ⟨op, ho, hop⟩ := touch_of hj
       rcases getElem?_append_cases ho with ⟨_, ho'⟩ | ⟨_, hou⟩
       · have := touch_low (I.ti.seen op (mem_of_getElem? ho')) hop hl
         omega
       · obtain ⟨e, hee, rfl⟩ := Conc.mem_ofEvents hou
         obtain ⟨a', hl', _, hcase⟩ := (O.evs e hee).1 x hop
         rw [hl] at hl'; cases hl'
         rcases hcase with ⟨_, ho' | ⟨hr', _⟩ | ⟨_, hf⟩⟩ | ⟨_, h | ⟨v, h⟩⟩ | ⟨_, h⟩
         · have := (I.base.low i a hHs (.inl (by rw [hown]; exact ho'))).1; omega
         · have := (I.base.low i a hHs (.inr (by rw [hrd]; exact hr'))).1; omega
         · exact hf hz
         · rw [hcn] at h; cases h
         · obtain ⟨_, _, _, _, _, _, _, hW, _⟩ := I.up hlt (by rw [hr]; rfl) h
           have := (I.base.groups _ _ hW).2; omega
         · rw [hcn] at h; cases h
     · rcases Array.mem_append.1 hop with h | h
       · have := I.ti.seen op h
         rw [e] at this
         have : a.block < w.heap.size := this
         omega
       · obtain ⟨e', hee, rfl⟩ := Conc.mem_ofEvents h
         obtain ⟨loc, wr, sy⟩ := e'
         have h3 := (O.evs _ hee).2.2 a
         cases loc with
         | mark m =>
           simp only [MemAct.ofEvent] at e
           cases e
           exact h3 rfl
         | obj b => cases wr <;> cases sy <;> simp [MemAct.ofEvent] at e
         | _ => simp [MemAct.ofEvent] at e
 have hwg : ∀ z st sm, (G.W z).isSome = true -> WgAt ty z w st sm -> WgAt ty z w' st sm := by
   intro z st sm hW h
   obtain ⟨p, hp⟩ := Option.isSome_iff_exists.1 hW
   refine h.of_block (O.out z (I.base.groups z p hp).2 fun o ho => ?_)
   have := I.free i ⟨z, o, none⟩ hHs (.inl (by rw [hown]; exact ho))
   simp only at this
   rw [this] at hp; cases hp
 have hks : (Role.act (f n) s c').ks = (G.role i).ks := by
   rw [hr]; cases s <;> simp_all [Role.ks, O.up, Stg.early]
 have hlimbo : ∀ k, (∃ r, G.H k = some (.past r)) -> ∀ a, G.own k a ∨ G.rd k a -> Same a w w' := by
   rintro k ⟨r, hk⟩ a ha
   have hki : k ≠ i := by rintro rfl; rw [hH] at hk; cases hk
   have hks : (G.H k).isSome = true := by rw [hk]; rfl
   refine O.cell a (I.base.low k a hks ha).1 fun ho => ?_
   have := I.sep i k a (Ne.symm hki) hHs hks (by rw [hown]; exact ho)
   exact ha.elim this.1 this.2
 have heks : ∃ up, (G.role i).ks = .early up := by
   rw [hr]; cases s <;> simp_all [Role.ks, Stg.early]
 refine ⟨G', lt_fuel hrole hlt (by rw [hr]; rfl) (fun y hy => by cases hy; exact Tree.lt_node n), I.next hi hrole (fun j hj => .inl ⟨rfl, (hne j hj).1, (hne j hj).2⟩) hrely base ti (I.dull.mine _ _ (.inr (by rw [hdeaf]; exact O.dull))) sep ?_ (fun p hp => ?_) I.bare I.child⟩
 · refine ⟨hs', by rw [O.main]; exact hmain, by rw [Deaf_own, hdeaf, O.deaf], by rw [O.up]; exact hup, ?_⟩
   rw [he]
   simp only [if_true]
   exact ⟨hH, hsame.1, hsame.2⟩
 · have keep := groups_keep (G' := G') (u := MemOp.ofEvents i g.frame.fn g.frame.place es) I hrole hp (fun _ => hks) rfl rfl (fun k _ => by
     by_cases e : k = i
     · exact .inr ⟨e, heks⟩
     · exact .inl ⟨(hne k e).1, (hne k e).2, rfl⟩) (fun z h => (hW2 z (by rw [h]; rfl)).trans h) (fun z st sm h => hwg z st sm (by rw [h]; rfl)) hlimbo O.size
   by_cases e : p = i
   · rcases hW3 with h | ⟨hcn, z, hz, hzs, hWi, _, hzl, hwz, hpe, hki, _⟩
     · refine keep fun _ => ?_
       rw [hr]
       simp only [Role.cfg?, Role.stg?, he, if_true, Option.map_some, Cfg.key, h, O.kids, O.pend, O.ub, true_and]
       exact fun h => h
     · subst e
       have hg := I.group p hp
       unfold GroupOk at hg ⊢
       rw [hr] at hg
       rw [hrole p, if_pos rfl]
       simp only [Role.cfg?, Role.stg?, he, if_true, hcn] at hg
       simp only [Role.cfg?, Role.stg?, he, if_true, hz]
       obtain ⟨g1, g2, g3, g4⟩ := hg
       subst g4
       refine ⟨hWi, by rw [O.kids, g2]; decide, ?_, ?_, ?_⟩
       · show All2 _ (G.kids p) _
         rw [g1, O.kids, g2]; exact .nil
       · show (G.kids p).Nodup
         rw [g1]; exact List.nodup_nil
       · have cnt : Count G' p = 0 := by unfold Count; show List.countP _ (G.kids p) = 0; rw [g1]; rfl
         simp only [Mode, cnt, O.pend, hpe]
         exact ⟨by simpa using hwz, fun k hk => (by have hk' : k ∈ G.kids p := hk; rw [g1] at hk'; cases hk'), Nat.zero_le _⟩
   · exact keep fun h => absurd h e
theorem step_ord (I : Inv ty P Fin Shun lo Z w₀ G gs w t) {i : Nat} {ι : Type} {f : ι -> Tree} {n : ι} {s : Stg} {c c' : Cfg} {g g' : Goroutine} {es : Array Event} (hi : gs[i]? = some g) (hr : G.role i = .act (.node ι f) s c) (he : s.early = true)
   (O : Ord ty c c' w w' es) (hs' : Script ty P Fin (f n) s c' g' w') :
   ∃ G', Lt3 (mu G' gs.size) (mu G gs.size) /\ Inv ty P Fin Shun lo Z w₀ G' ((gs.map (woken P g g' w')).setIfInBounds i g') w' (t ++ MemOp.ofEvents i g.frame.fn g.frame.place es) := by
 rcases O.cur with h | ⟨h1, z, h2, h3, h4, h5, h6, h7, h8⟩
 · exact step_ordW (W' := G.W) I hi hr he O hs' (fun b p hp => .inl hp) (fun _ _ => rfl) (.inl h) (fun _ => rfl)
 · have hzn : G.W z = none := by
     cases h : G.W z with
     | none => rfl
     | some p => have := (I.base.groups z p h).2; omega
   refine step_ordW (W' := upd G.W z (some i)) I hi hr he O hs' (fun b p hp => ?_) (fun b hb => ?_) (.inr ⟨h1, z, h2, h3, upd_same _ _ _, fun b hb => upd_ne _ _ hb, h4, h5, h6, h7, h8⟩) (fun e => by rw [h1, h2] at e; cases e)
   · by_cases e : b = z
     · subst e
       rw [upd_same] at hp; cases hp
       exact .inr ⟨rfl, h1, h2, h3, h4⟩
     · rw [upd_ne _ _ e] at hp; exact .inl hp
   · exact upd_ne _ _ (fun e => by rw [e, hzn] at hb; cases hb)
end
theorem countP_drop {f f' : Nat -> Bool} {i : Nat} : ∀ {l : List Nat}, l.Nodup -> i ∈ l -> (∀ k ∈ l, k ≠ i -> f' k = f k) -> f i = true -> f' i = false -> l.countP f' + 1 = l.countP f
 | x :: l, hn, hi, hk, h1, h2 => by
   rw [List.nodup_cons] at hn
   by_cases e : x = i
   · subst e
     have : l.countP f' = l.countP f := List.countP_congr fun k hkl => by
       rw [hk k (by simp [hkl]) (fun e => hn.1 (e ▸ hkl))]
     simp [h1, h2, this]
   · have hi' : i ∈ l := by simpa [Ne.symm e] using hi
     have ih := countP_drop hn.2 hi' (fun k hkl hne => hk k (by simp [hkl]) hne) h1 h2
     simp only [List.countP_cons, hk x (by simp) e]
     omega
section
variable {ty : TypeId} {P : Program} {Fin : Perm -> Perm -> Goroutine -> World -> Prop} {Shun : Go.Loc -> Prop} {lo : Nat} {Z : Nat -> Prop} {w₀ : World} {G G' : Ghost} {gs : Array Goroutine} {t u : Trace} {w w' : World}
def BkE (G : Ghost) (w : World) (e : Event) : Prop := e.mute = true ∨ ∃ a wr, e = ⟨.cell a, wr, true⟩ /\ (G.W a.block).isSome = true /\ a.block < w.heap.size
def Turn (ty : TypeId) (G : Ghost) (w w' : World) : Prop := w' = w ∨ ∃ a v, (G.W a.block).isSome = true /\ w' = w.setCell a v /\ WgLive ty a.block w'
theorem Turn.size (h : Turn ty G w w') : w'.heap.size = w.heap.size := by
 rcases h with rfl | ⟨a, v, _, rfl, _⟩
 · rfl
 · exact setCell_size _ _ _
theorem Turn.other (h : Turn ty G w w') : w'.os = w.os /\ w'.tape = w.tape /\ w'.output = w.output := by
 rcases h with rfl | ⟨a, v, hW, rfl, _⟩ <;> exact ⟨rfl, rfl, rfl⟩
theorem step_bk (I : Inv ty P Fin Shun lo Z w₀ G gs w t) {i : Nat} {ρ : Role} {g g' : Goroutine} {es : Array Event} (hi : gs[i]? = some g) (hT : Turn ty G w w')
   (hes : ∀ e ∈ es, BkE G w e) (hdl : i = 0 ∨ ∀ j e x, es[j]? = some e -> (MemAct.ofEvent e).touch? = some x -> x.kind = .atomic -> 0 < deafBehind (Deaf t i) (es.extract 0 j))
   (hloc : Loc ty P Fin G (t ++ MemOp.ofEvents i g.frame.fn g.frame.place es) w' i g' ρ)
   (hgroup : ∀ G' : Ghost, (∀ j, G'.role j = if j = i then ρ else wakeRole (wakes P g g') (G.role j)) -> G'.H = G.H -> G'.own = G.own -> G'.rd = G.rd -> G'.W = G.W -> G'.par = G.par -> G'.kids = G.kids -> ∀ p, p < gs.size -> GroupOk ty G' gs.size (t ++ MemOp.ofEvents i g.frame.fn g.frame.place es) w' p) :
   ∃ G', (∀ j, G'.role j = if j = i then ρ else wakeRole (wakes P g g') (G.role j)) /\ Inv ty P Fin Shun lo Z w₀ G' ((gs.map (woken P g g' w')).setIfInBounds i g') w' (t ++ MemOp.ofEvents i g.frame.fn g.frame.place es) := by
 let G' : Ghost := { G with role := fun j => if j = i then ρ else wakeRole (wakes P g g') (G.role j) }
 have hrole : ∀ j, G'.role j = if j = i then ρ else wakeRole (wakes P g g') (G.role j) := fun _ => rfl
 obtain ⟨ho1, ho2, ho3⟩ := hT.other
 have okops : ∀ op ∈ MemOp.ofEvents i g.frame.fn g.frame.place es, op.act.low w.heap.size /\ (∀ x, op.act.touch? = some x -> ∃ a, key x.loc = some a /\ x.kind = .atomic /\ (G.W a.block).isSome = true) /\ ∀ a, op.act ≠ .mark (.release a) := by
   intro op hop
   obtain ⟨e, hee, rfl⟩ := Conc.mem_ofEvents hop
   rcases hes e hee with hm | ⟨a, wr, rfl, hW, hl⟩
   · refine ⟨low_mute hm _, fun x hx => (by simp only [touch_mute hm] at hx; cases hx), fun a e => ?_⟩
     rcases act_mute' hm with h | h <;> simp only [h] at e <;> cases e
   · refine ⟨hl, fun x hx => ?_, fun b e => by cases e⟩
     simp only [ofEvent_cell0, MemAct.touch?, Option.some.injEq] at hx
     subst hx
     exact ⟨a, rfl, rfl, hW⟩
 refine ⟨G', hrole, I.next hi hrole (fun j _ => .inl ⟨rfl, rfl, rfl⟩) (fun j c hij hj hc => ?_) ⟨by rw [hT.size]; exact I.base.size, ho1.trans I.base.os, ho2.trans I.base.tape, ho3.trans I.base.output, fun b p hp => by rw [hT.size]; exact I.base.groups b p hp, fun j a hj => by rw [hT.size]; exact I.base.low j a hj, I.base.zlow, I.base.shun⟩
   (by rw [hT.size]; exact I.ti.bk okops I.free) (I.dull.mine _ _ hdl) I.sep hloc (hgroup G' hrole rfl rfl rfl rfl rfl rfl) I.bare I.child⟩
 rcases hT with rfl | ⟨a, v, hW, rfl, hl⟩
 · exact Rely.refl ty c _
 · obtain ⟨h1, h2, h3, _⟩ := I.holds hj hc
   exact wg_rely rfl hl fun x hx e => by
     have := I.free j x h1 (hx.imp (h2 x) (h3 x))
     rw [e] at this; rw [this] at hW; cases hW
theorem WgAt.turn {z : Nat} {a : Addr} {v : Value} (ha : a.block ≠ z) {st sm : Int} (h : WgAt ty z w st sm) : WgAt ty z (w.setCell a v) st sm := h.of_block (setCell_block w a v (Ne.symm ha))
theorem groups_bk (I : Inv ty P Fin Shun lo Z w₀ G gs w t) {i : Nat} {ρ : Role} {wk : Bool} (hrole : ∀ j, G'.role j = if j = i then ρ else wakeRole wk (G.role j)) (h1 : G'.H = G.H) (h2 : G'.own = G.own) (h3 : G'.rd = G.rd) (h4 : G'.W = G.W) (h5 : G'.par = G.par) (h6 : G'.kids = G.kids)
   {q : Nat} (hT : w' = w ∨ ∃ a v, G.W a.block = some q /\ w' = w.setCell a v) {p : Nat} (hp : p < gs.size) (hks : i ∈ G.kids p -> ρ.ks = (G.role i).ks) (hq : w' = w ∨ p ≠ q)
   (hpi : p = i -> ρ.cfg?.map Cfg.key = (G.role i).cfg?.map Cfg.key /\ ρ.stg? = (G.role i).stg? /\ (ρ.isBlk = true -> (G.role i).isBlk = true)) : GroupOk ty G' gs.size (t ++ u) w' p := by
 refine groups_keep (G' := G') I hrole hp hks h5 (by rw [h6]) (fun k _ => .inl ⟨by rw [h2], by rw [h3], by rw [h1]⟩) (fun z h => by rw [h4]; exact h) (fun z st sm hz h => ?_) (fun k hk a ha => ?_) ?_ hpi
 · rcases hq with e2 | hq
   · rw [e2]; exact h
   · rcases hT with rfl | ⟨a, v, hW, rfl⟩
     · exact h
     · refine WgAt.turn (fun e => ?_) h
       rw [e, hz] at hW
       cases hW; exact hq rfl
 · rcases hT with rfl | ⟨b, v, hW, rfl⟩
   · exact Same.refl a _
   · obtain ⟨r, hr⟩ := hk
     have := I.free k a (by rw [hr]; rfl) ha
     exact same_of_block (setCell_block w b v (fun e => by rw [e] at this; rw [this] at hW; cases hW))
 · rcases hT with rfl | ⟨b, v, hW, rfl⟩
   · exact Nat.le_refl _
   · rw [setCell_size]; exact Nat.le_refl _
end
section
variable {ty : TypeId} {P : Program} {Fin : Perm -> Perm -> Goroutine -> World -> Prop} {Shun : Go.Loc -> Prop} {lo : Nat} {Z : Nat -> Prop} {w₀ : World} {G G' : Ghost} {gs : Array Goroutine} {t u : Trace} {w w' : World}
theorem Inv.here (I : Inv ty P Fin Shun lo Z w₀ G gs w t) {i : Nat} {g : Goroutine} (hi : gs[i]? = some g) : i < gs.size /\ Loc ty P Fin G t w i g (G.role i) := by
 have hlt : i < gs.size := (Array.getElem?_eq_some_iff.1 hi).1
 obtain ⟨x, hx, hl⟩ := I.loc i hlt
 rw [hi] at hx; cases hx
 exact ⟨hlt, hl⟩
theorem bk_dull2 {d : Nat} {e1 e2 : Event} (hd : 0 < d) (h1 : ∃ l, e1 = ⟨.cell l, false, true⟩) : ∀ j e x, (#[e1, e2] : Array Event)[j]? = some e -> (MemAct.ofEvent e).touch? = some x -> x.kind = .atomic -> 0 < deafBehind d ((#[e1, e2] : Array Event).extract 0 j) := by
 intro j e x he _ _
 obtain ⟨l, rfl⟩ := h1
 match j, he with
 | 0, _ => simpa [deafBehind] using hd
 | 1, _ => simpa [deafBehind] using hd
 | j + 2, he => simp at he
theorem bk_dull1 {d : Nat} {e1 : Event} (hd : 0 < d) : ∀ j e x, (#[e1] : Array Event)[j]? = some e -> (MemAct.ofEvent e).touch? = some x -> x.kind = .atomic -> 0 < deafBehind d ((#[e1] : Array Event).extract 0 j) := by
 intro j e x he _ _
 match j, he with
 | 0, _ => simpa [deafBehind] using hd
 | j + 1, he => simp at he
theorem bk_dullS {d : Nat} (a : Addr) : ∀ j e x, (semEvents a)[j]? = some e -> (MemAct.ofEvent e).touch? = some x -> x.kind = .atomic -> 0 < deafBehind d ((semEvents a).extract 0 j) := by
 intro j e x he hx _
 match j, he with
 | 0, he => simp [semEvents] at he; subst he; cases hx
 | 1, _ => simp [deafBehind, semEvents]
 | 2, _ => simp [deafBehind, semEvents]
 | 3, he => simp [semEvents] at he; subst he; cases hx
 | j + 4, he => simp [semEvents] at he
theorem deaf_rw (d : Nat) (z : Addr) : deafBehind d #[ConcR.rd z, wr z] = d := by simp [deafBehind, ConcR.rd, wr]
theorem deaf_r (d : Nat) (z : Addr) : deafBehind d #[ConcR.rd z] = d := by simp [deafBehind, ConcR.rd]
theorem deaf_w (d : Nat) (z : Addr) : deafBehind d #[wr z] = d := by simp [deafBehind, wr]
theorem deaf_s (d : Nat) (z : Addr) : deafBehind d (semEvents z) = d := by simp [deafBehind, semEvents]
theorem bkE_cell {a : Addr} {wrt : Bool} {p : Nat} (I : Inv ty P Fin Shun lo Z w₀ G gs w t) (h : G.W a.block = some p) : BkE G w ⟨.cell a, wrt, true⟩ := .inr ⟨a, wrt, rfl, by rw [h]; rfl, (I.base.groups _ _ h).2⟩
theorem bkE_rw {z p : Nat} (I : Inv ty P Fin Shun lo Z w₀ G gs w t) (h : G.W z = some p) : ∀ e ∈ #[ConcR.rd (stA z), wr (stA z)], BkE G w e := by
 intro e he; simp at he; rcases he with rfl | rfl <;> exact bkE_cell (a := stA z) I h
theorem bkE_r {z p : Nat} (I : Inv ty P Fin Shun lo Z w₀ G gs w t) (h : G.W z = some p) : ∀ e ∈ #[ConcR.rd (stA z)], BkE G w e := by
 intro e he; simp at he; subst he; exact bkE_cell (a := stA z) I h
theorem bkE_w {z p : Nat} (I : Inv ty P Fin Shun lo Z w₀ G gs w t) (h : G.W z = some p) : ∀ e ∈ #[wr (stA z)], BkE G w e := by
 intro e he; simp at he; subst he; exact bkE_cell (a := stA z) I h
theorem bkE_s {z p : Nat} (I : Inv ty P Fin Shun lo Z w₀ G gs w t) (h : G.W z = some p) : ∀ e ∈ semEvents (smA z), BkE G w e := by
 intro e he; simp [semEvents] at he
 rcases he with rfl | rfl | rfl | rfl
 · exact .inl rfl
 · exact bkE_cell (a := smA z) I h
 · exact bkE_cell (a := smA z) I h
 · exact .inl rfl
theorem Inv.open (I : Inv ty P Fin Shun lo Z w₀ G gs w t) {i : Nat} {c : Cfg} {s : Stg} {z : Nat} (hi : i < gs.size) (hc : (G.role i).cfg? = some c) (hs : (G.role i).stg? = some s) (hz : c.cur = some z) :
   G.W z = some i /\ c.kids.length < 1001 /\ All2 (KidOk G gs.size t w z i) (G.kids i) c.kids /\ (G.kids i).Nodup /\ Mode ty G w i z c s := by
 have hg := I.group i hi
 unfold GroupOk at hg
 rw [hc, hs] at hg
 simp only [hz] at hg
 exact hg
theorem Count_le (G : Ghost) (i : Nat) : Count G i <= (G.kids i).length := List.countP_le_length
theorem Count_same {i : Nat} (h : ∀ k ∈ G.kids i, (G'.role k).ks = (G.role k).ks) (hk : G'.kids i = G.kids i) : Count G' i = Count G i := by
 unfold Count; rw [hk]; exact List.countP_congr fun k hkl => by rw [h k hkl]
theorem group_mine (I : Inv ty P Fin Shun lo Z w₀ G gs w t) {i : Nat} {s s' : Stg} {c c' : Cfg} {ρ : Role} {wk : Bool} {z : Nat} (hi : i < gs.size) (hc : (G.role i).cfg? = some c) (hs : (G.role i).stg? = some s) (hz : c.cur = some z)
   (hρ : ρ.cfg? = some c' /\ ρ.stg? = some s') (hz' : c'.cur = some z) (hk' : c'.kids = c.kids)
   (hrole : ∀ j, G'.role j = if j = i then ρ else wakeRole wk (G.role j)) (h1 : G'.H = G.H) (h2 : G'.own = G.own) (h3 : G'.rd = G.rd) (h4 : G'.W = G.W) (h5 : G'.par = G.par) (h6 : G'.kids = G.kids)
   (hT : w' = w ∨ ∃ a v, a.block = z /\ w' = w.setCell a v)
   (hm : Count G' i = Count G i -> (OpenK G i -> OpenK G' i) -> (AllGone G i -> AllGone G' i) -> (∀ L ∈ G.kids i, (G'.role L).ks = (G.role L).ks) -> Mode ty G' w' i z c' s') : GroupOk ty G' gs.size (t ++ u) w' i := by
 obtain ⟨g1, g2, g3, g4, g5⟩ := I.open hi hc hs hz
 have hsame : ∀ x, (∃ r, G.H x = some (.past r)) -> ∀ a, G.own x a ∨ G.rd x a -> Same a w w' := by
   rintro x ⟨r, hr⟩ a ha
   rcases hT with rfl | ⟨b, v, hb, rfl⟩
   · exact Same.refl a _
   · have := I.free x a (by rw [hr]; rfl) ha
     exact same_of_block (setCell_block w b v (fun e => by rw [e, hb, g1] at this; cases this))
 have hsz : w.heap.size <= w'.heap.size := by
   rcases hT with rfl | ⟨b, v, hb, rfl⟩
   · exact Nat.le_refl _
   · rw [setCell_size]; exact Nat.le_refl _
 have hks : ∀ k ∈ G.kids i, (G'.role k).ks = (G.role k).ks := by
   intro k hk
   obtain ⟨v, _, hv⟩ := g3.get hk
   rw [hrole k, if_neg (by have := hv.1; omega), wakeRole_ks]
 unfold GroupOk
 rw [hrole i, if_pos rfl, hρ.1, hρ.2]
 simp only [hz']
 refine ⟨by rw [h4]; exact g1, by rw [hk']; exact g2, ?_, by rw [h6]; exact g4, ?_⟩
 · rw [h6, hk']
   refine g3.imp fun k v hk hv => ?_
   obtain ⟨a1, a2, a3, a4⟩ := hv
   refine ⟨a1, a2, by rw [h5]; exact a3, ?_⟩
   rw [hks k hk]
   have rel : RelOk G t w z k v -> RelOk G' (t ++ u) w' z k v := by
     rintro ⟨⟨r, hr, hsaid⟩, hv⟩
     refine ⟨⟨r, by rw [h1]; exact hr, hsaid.app u⟩, ?_⟩
     rw [h2, h3]
     exact v.keep (hsame k ⟨r, hr⟩) hsz hv
   revert a4
   cases (G.role k).ks with
   | early up => exact id
   | rel up => exact fun q => ⟨q.1, rel q.2⟩
   | last j up => exact fun q => ⟨q.1, rel q.2⟩
   | gone => exact rel
 · exact hm (Count_same hks (by rw [h6])) (fun o k hk => by rw [h6] at hk; rw [hks k hk]; exact o k hk) (fun o k hk => by rw [h6] at hk; rw [hks k hk]; exact o k hk) hks
theorem early_role {n : Tree} {s : Stg} {c : Cfg} (he : s.early = true) : (Role.act n s c).cfg? = some c /\ (Role.act n s c).stg? = some s /\ (Role.act n s c).ks = .early c.up := by
 cases s <;> simp_all [Role.cfg?, Role.stg?, Stg.early, Role.ks]
theorem step_mine (I : Inv ty P Fin Shun lo Z w₀ G gs w t) {i : Nat} {ι : Type} {f : ι -> Tree} {n : ι} {s s' : Stg} {c c' : Cfg} {g g' : Goroutine} {es : Array Event} {z : Nat} (hi : gs[i]? = some g) (hr : G.role i = .act (.node ι f) s c) (he : s.early = true) (he' : s'.early = true) (hz : c.cur = some z)
   (hc : c'.main = c.main /\ c'.own = c.own /\ c'.rd = c.rd /\ c'.deaf = c.deaf /\ c'.cur = c.cur /\ c'.kids = c.kids /\ c'.up = c.up) (hd : deafBehind c.deaf es = c.deaf)
   (hT : w' = w ∨ ∃ a v, a.block = z /\ w' = w.setCell a v /\ WgLive ty z w') (hes : ∀ e ∈ es, BkE G w e) (hdl : ∀ j e x, es[j]? = some e -> (MemAct.ofEvent e).touch? = some x -> x.kind = .atomic -> 0 < deafBehind c.deaf (es.extract 0 j))
   (hs' : Script ty P Fin (f n) s' c' g' w')
   (hm : ∀ G' : Ghost, G'.role i = .act (f n) s' c' -> Count G' i = Count G i -> (OpenK G i -> OpenK G' i) -> (AllGone G i -> AllGone G' i) -> (∀ L ∈ G.kids i, (G'.role L).ks = (G.role L).ks) -> G'.kids i = G.kids i -> Mode ty G' w' i z c' s') :
   ∃ G', Lt3 (mu G' gs.size) (mu G gs.size) /\ Inv ty P Fin Shun lo Z w₀ G' ((gs.map (woken P g g' w')).setIfInBounds i g') w' (t ++ MemOp.ofEvents i g.frame.fn g.frame.place es) := by
 obtain ⟨hlt, hl⟩ := I.here hi
 rw [hr] at hl
 obtain ⟨_, hmain, hdeaf, hup, hH⟩ := hl
 rw [he] at hH
 simp only [if_true] at hH
 obtain ⟨e1, e2, e3⟩ := early_role (n := .node ι f) (c := c) he
 obtain ⟨f1, f2, f3⟩ := early_role (n := f n) (c := c') he'
 obtain ⟨c1, c2, c3, c4, c5, c6, c7⟩ := hc
 have hW := (I.open hlt (by rw [hr]; exact e1) (by rw [hr]; exact e2) hz).1
 have hTt : Turn ty G w w' := by
   rcases hT with h | ⟨a, v, ha, h, hl⟩
   · exact .inl h
   · exact .inr ⟨a, v, by rw [ha, hW]; rfl, h, by rw [ha]; exact hl⟩
 obtain ⟨G', hrole, I'⟩ := step_bk (ρ := .act (f n) s' c') (g' := g') I hi hTt hes (.inr (by rw [hdeaf]; exact hdl))
   ⟨hs', by rw [c1]; exact hmain, by rw [Deaf_own, hdeaf, hd, c4], by rw [c7]; exact hup, by rw [he']; simp only [if_true]; rw [c2, c3]; exact hH⟩
   (fun G' hrole h1 h2 h3 h4 h5 h6 p hp => by
     by_cases e : p = i
     · subst e
       exact group_mine I hp (by rw [hr]; exact e1) (by rw [hr]; exact e2) hz ⟨f1, f2⟩ (by rw [c5]; exact hz) c6 hrole h1 h2 h3 h4 h5 h6 (hT.imp id fun ⟨a, v, ha, h, _⟩ => ⟨a, v, ha, h⟩)
         (fun a b d e => hm G' (by rw [hrole p, if_pos rfl]) a b d e (by rw [h6]))
     · exact groups_bk (q := i) I hrole h1 h2 h3 h4 h5 h6 (hT.imp id fun ⟨a, v, ha, h, _⟩ => ⟨a, v, by rw [ha]; exact hW, h⟩) hp (fun _ => by rw [hr, f3, e3, c7]) (.inr e) (fun h => absurd h e))
 exact ⟨G', lt_fuel hrole hlt (by rw [hr]; rfl) (fun y hy => by cases hy; exact Tree.lt_node n), I'⟩
end
section
variable {ty : TypeId} {P : Program} {Fin : Perm -> Perm -> Goroutine -> World -> Prop} {Shun : Go.Loc -> Prop} {lo : Nat} {Z : Nat -> Prop} {w₀ : World} {G G' : Ghost} {gs : Array Goroutine} {t u : Trace} {w w' : World}
def Goal (ty : TypeId) (P : Program) (Fin : Perm -> Perm -> Goroutine -> World -> Prop) (Shun : Go.Loc -> Prop) (lo : Nat) (Z : Nat -> Prop) (w₀ : World) (G : Ghost) (gs : Array Goroutine) (w : World) (t : Trace) (sl : Option (Nat × Nat)) (i : Nat) : Prop :=
 ∃ G' gs' w' ops, runT P (crowd gs w sl) i = (.next (crowd gs' w' sl), ops) /\ Lt3 (mu G' gs'.size) (mu G gs.size) /\ Inv ty P Fin Shun lo Z w₀ G' gs' w' (t ++ ops)
theorem Goal.of_go {i : Nat} {g g' : Goroutine} {es : Array Event} {sl : Option (Nat × Nat)} (hi : gs[i]? = some g) (hgo : stepG P (i == 0) g w = .go g' w' es)
   (h : ∃ G', Lt3 (mu G' gs.size) (mu G gs.size) /\ Inv ty P Fin Shun lo Z w₀ G' ((gs.map (woken P g g' w')).setIfInBounds i g') w' (t ++ MemOp.ofEvents i g.frame.fn g.frame.place es)) : Goal ty P Fin Shun lo Z w₀ G gs w t sl i := by
 obtain ⟨G', h1, h2⟩ := h
 refine ⟨G', _, w', _, runT_crowd_go (P := P) (sl := sl) (i := i) hi hgo, ?_, h2⟩
 rw [show ((gs.map (woken P g g' w')).setIfInBounds i g').size = gs.size by simp]
 exact h1
theorem step_add (I : Inv ty P Fin Shun lo Z w₀ G gs w t) {i : Nat} {ι : Type} {f : ι -> Tree} {c : Cfg} {g : Goroutine} {z : Nat} {sl : Option (Nat × Nat)} (hi : gs[i]? = some g) (hr : G.role i = .act (.node ι f) .work c) (hp : c.pend = false) (hd : 0 < c.deaf) (hz : c.cur = some z)
   (h : ∀ v : Nat, v < 2147483647 -> WgAt ty z w (v * KK) 0 -> ∃ n, ∃ g', stepG P c.main g w = .go g' (w.setCell (stA z) (.int .u64 ((v + 1 : Nat) * KK))) #[ConcR.rd (stA z), wr (stA z)] /\
       Script ty P Fin (f n) .work { c with pend := true } g' (w.setCell (stA z) (.int .u64 ((v + 1 : Nat) * KK)))) : Goal ty P Fin Shun lo Z w₀ G gs w t sl i := by
 obtain ⟨hlt, hl⟩ := I.here hi
 rw [hr] at hl
 obtain ⟨g1, g2, g3, g4, g5⟩ := I.open (c := c) (s := .work) hlt (by rw [hr]; rfl) (by rw [hr]; rfl) hz
 simp only [Mode, hp] at g5
 obtain ⟨m1, m2, m3⟩ := g5
 have hle := Count_le G i
 rw [g3.length] at hle
 obtain ⟨n, g', hgo, hs'⟩ := h (Count G i) (by omega) (by simpa using m1)
 rw [hl.2.1] at hgo
 refine Goal.of_go hi hgo (step_mine (c' := { c with pend := true }) I hi hr rfl rfl hz ⟨rfl, rfl, rfl, rfl, rfl, rfl, rfl⟩ (deaf_rw _ _) (.inr ⟨stA z, _, rfl, rfl, _, _, m1.setSt _⟩) (bkE_rw I g1) (bk_dull2 hd ⟨_, rfl⟩) hs' fun G' _ hc ho _ _ _ => ?_)
 simp only [Mode]
 rw [hc]
 exact ⟨by have := m1.setSt (((Count G i + 1 : Nat) : Int) * KK); simpa using this, ho m2, m3⟩
theorem step_w1 (I : Inv ty P Fin Shun lo Z w₀ G gs w t) {i : Nat} {ι : Type} {f : ι -> Tree} {c : Cfg} {g : Goroutine} {z : Nat} {sl : Option (Nat × Nat)} (hi : gs[i]? = some g) (hr : G.role i = .act (.node ι f) .work c) (hp : c.pend = false) (hd : 0 < c.deaf) (hz : c.cur = some z)
   (h : ∀ v : Nat, v <= c.ub -> WgAt ty z w (v * KK) 0 -> ∃ n, ∃ g', stepG P c.main g w = .go g' w #[ConcR.rd (stA z)] /\ Script ty P Fin (f n) (if v = 0 then .awake else .cas v) { c with ub := v } g' w) : Goal ty P Fin Shun lo Z w₀ G gs w t sl i := by
 obtain ⟨hlt, hl⟩ := I.here hi
 rw [hr] at hl
 obtain ⟨g1, g2, g3, g4, g5⟩ := I.open (c := c) (s := .work) hlt (by rw [hr]; rfl) (by rw [hr]; rfl) hz
 simp only [Mode, hp] at g5
 obtain ⟨m1, m2, m3⟩ := g5
 obtain ⟨n, g', hgo, hs'⟩ := h (Count G i) m3 (by simpa using m1)
 rw [hl.2.1] at hgo
 by_cases e : Count G i = 0
 · rw [if_pos e] at hs'
   refine Goal.of_go hi hgo (step_mine (c' := { c with ub := Count G i }) I hi hr rfl rfl hz ⟨rfl, rfl, rfl, rfl, rfl, rfl, rfl⟩ (deaf_r _ _) (.inl rfl) (bkE_r I g1) (bk_dull1 hd) hs' fun G' _ hc ho ha hk hkk => ?_)
   simp only [Mode]
   refine ⟨hp, ?_, ?_⟩
   · refine ha fun k hkm => (m2 k hkm).resolve_left fun hcnt => ?_
     have : 0 < Count G i := by
       unfold Count
       exact List.countP_pos_iff.2 ⟨k, hkm, hcnt⟩
     omega
   · rw [e] at m1; simpa using m1
 · rw [if_neg e] at hs'
   refine Goal.of_go hi hgo (step_mine (c' := { c with ub := Count G i }) I hi hr rfl rfl hz ⟨rfl, rfl, rfl, rfl, rfl, rfl, rfl⟩ (deaf_r _ _) (.inl rfl) (bkE_r I g1) (bk_dull1 hd) hs' fun G' _ hc ho ha hk hkk => ?_)
   simp only [Mode]
   rw [hc]
   exact ⟨hp, by simpa using m1, ho m2, Nat.le_refl _, by omega⟩
theorem step_w2 (I : Inv ty P Fin Shun lo Z w₀ G gs w t) {i vs : Nat} {ι : Type} {f : ι -> Tree} {c : Cfg} {g : Goroutine} {z : Nat} {sl : Option (Nat × Nat)} (hi : gs[i]? = some g) (hr : G.role i = .act (.node ι f) (.cas vs) c) (hd : 0 < c.deaf) (hz : c.cur = some z)
   (h : ∀ v : Nat, v <= vs -> WgAt ty z w (v * KK) 0 ->
       (v = vs -> ∃ n, ∃ g', stepG P c.main g w = .go g' (w.setCell (stA z) (.int .u64 (v * KK + 1))) #[ConcR.rd (stA z), wr (stA z)] /\ Script ty P Fin (f n) .reg c g' (w.setCell (stA z) (.int .u64 (v * KK + 1)))) /\
       (v ≠ vs -> ∃ n, ∃ g', stepG P c.main g w = .go g' w #[ConcR.rd (stA z)] /\ Script ty P Fin (f n) .work { c with ub := vs - 1 } g' w)) : Goal ty P Fin Shun lo Z w₀ G gs w t sl i := by
 obtain ⟨hlt, hl⟩ := I.here hi
 rw [hr] at hl
 obtain ⟨g1, g2, g3, g4, g5⟩ := I.open (c := c) (s := .cas vs) hlt (by rw [hr]; rfl) (by rw [hr]; rfl) hz
 simp only [Mode] at g5
 obtain ⟨hp, m1, m2, m3, m4⟩ := g5
 obtain ⟨hA, hB⟩ := h (Count G i) m3 m1
 by_cases e : Count G i = vs
 · obtain ⟨n, g', hgo, hs'⟩ := hA e
   rw [hl.2.1] at hgo
   refine Goal.of_go hi hgo (step_mine I hi hr rfl rfl hz ⟨rfl, rfl, rfl, rfl, rfl, rfl, rfl⟩ (deaf_rw _ _) (.inr ⟨stA z, _, rfl, rfl, _, _, m1.setSt _⟩) (bkE_rw I g1) (bk_dull2 hd ⟨_, rfl⟩) hs' fun G' _ hc ho _ _ _ => ?_)
   simp only [Mode]
   rw [hc]
   exact ⟨hp, .inl ⟨m1.setSt _, ho m2, by omega⟩⟩
 · obtain ⟨n, g', hgo, hs'⟩ := hB e
   rw [hl.2.1] at hgo
   refine Goal.of_go hi hgo (step_mine (c' := { c with ub := vs - 1 }) I hi hr rfl rfl hz ⟨rfl, rfl, rfl, rfl, rfl, rfl, rfl⟩ (deaf_r _ _) (.inl rfl) (bkE_r I g1) (bk_dull1 hd) hs' fun G' _ hc ho _ _ _ => ?_)
   simp only [Mode, hp]
   rw [hc]
   exact ⟨by simpa using m1, ho m2, by omega⟩
theorem step_w4 (I : Inv ty P Fin Shun lo Z w₀ G gs w t) {i : Nat} {ι : Type} {f : ι -> Tree} {c : Cfg} {g : Goroutine} {z : Nat} {sl : Option (Nat × Nat)} (hi : gs[i]? = some g) (hr : G.role i = .act (.node ι f) .awake c) (hd : 0 < c.deaf) (hz : c.cur = some z)
   (h : WgAt ty z w 0 0 -> ∃ n, ∃ g', stepG P c.main g w = .go g' w #[ConcR.rd (stA z)] /\ Script ty P Fin (f n) .awake c g' w) : Goal ty P Fin Shun lo Z w₀ G gs w t sl i := by
 obtain ⟨hlt, hl⟩ := I.here hi
 rw [hr] at hl
 obtain ⟨g1, g2, g3, g4, g5⟩ := I.open (c := c) (s := .awake) hlt (by rw [hr]; rfl) (by rw [hr]; rfl) hz
 simp only [Mode] at g5
 obtain ⟨hp, m1, m2⟩ := g5
 obtain ⟨n, g', hgo, hs'⟩ := h m2
 rw [hl.2.1] at hgo
 refine Goal.of_go hi hgo (step_mine I hi hr rfl rfl hz ⟨rfl, rfl, rfl, rfl, rfl, rfl, rfl⟩ (deaf_r _ _) (.inl rfl) (bkE_r I g1) (bk_dull1 hd) hs' fun G' _ _ _ ha _ _ => ?_)
 simp only [Mode]
 exact ⟨hp, ha m1, m2⟩
theorem step_w3 (I : Inv ty P Fin Shun lo Z w₀ G gs w t) {i : Nat} {ι : Type} {f : ι -> Tree} {c : Cfg} {g : Goroutine} {z : Nat} {sl : Option (Nat × Nat)} (hi : gs[i]? = some g) (hr : G.role i = .act (.node ι f) .reg c) (hz : c.cur = some z)
   (hA : (∃ st, WgAt ty z w st 0) -> stepG P c.main g w = .go { g with status := .blocked } w #[])
   (hB : WgAt ty z w 0 1 -> ∃ n, ∃ g', stepG P c.main g w = .go g' (w.setCell (smA z) (.int .u32 0)) (semEvents (smA z)) /\ Script ty P Fin (f n) .awake c g' (w.setCell (smA z) (.int .u32 0))) : Goal ty P Fin Shun lo Z w₀ G gs w t sl i := by
 obtain ⟨hlt, hl⟩ := I.here hi
 rw [hr] at hl
 obtain ⟨g1, g2, g3, g4, g5⟩ := I.open (c := c) (s := .reg) hlt (by rw [hr]; rfl) (by rw [hr]; rfl) hz
 obtain ⟨hs, hmain, hdeaf, hup, hH⟩ := hl
 simp only [Stg.early, if_true] at hH
 simp only [Mode] at g5
 obtain ⟨hp, hm⟩ := g5
 have sleep : (∃ st, WgAt ty z w st 0) -> (∀ G' : Ghost, Count G' i = Count G i -> (OpenK G i -> OpenK G' i) -> (AllGone G i -> AllGone G' i) -> (∀ L ∈ G.kids i, (G'.role L).ks = (G.role L).ks) -> G'.kids i = G.kids i -> Mode ty G' w i z c .reg) -> Goal ty P Fin Shun lo Z w₀ G gs w t sl i := by
   intro hst hmode
   have hgo := hA hst
   rw [hmain] at hgo
   have hrun := hs.running
   have eg : ({ ({ g with status := .blocked } : Goroutine) with status := .running } : Goroutine) = g := by
     obtain ⟨fr, cs, st, dy, off⟩ := g
     simp only at hrun
     rw [hrun.1]
   have hwk : wakes P g { g with status := .blocked } = false := by simp [wakes]
   obtain ⟨G', hrole, I'⟩ := step_bk (ρ := .blk (.node ι f) c) (g' := { g with status := .blocked }) (es := #[]) I hi (.inl rfl) (by simp) (.inr (by simp))
     ⟨rfl, hrun.2, by rw [eg]; exact hs, hmain, by rw [Deaf_own]; exact hdeaf, hup, hH⟩
     (fun G' hrole h1 h2 h3 h4 h5 h6 p hpp => by
       by_cases e : p = i
       · subst e
         exact group_mine I hpp (by rw [hr]; rfl) (by rw [hr]; rfl) hz ⟨rfl, rfl⟩ hz rfl hrole h1 h2 h3 h4 h5 h6 (.inl rfl) (fun a b d e => hmode G' a b d e (by rw [h6]))
       · exact groups_bk (q := i) I hrole h1 h2 h3 h4 h5 h6 (.inl rfl) hpp (fun _ => by rw [hr]; rfl) (.inl rfl) (fun h => absurd h e))
   rw [hwk] at hrole
   exact Goal.of_go hi hgo ⟨G', lt_reg hrole hlt (by rw [hr]; rfl) (by rw [hr]; rfl) (by rw [hr]; exact Nat.zero_lt_one), I'⟩
 rcases hm with ⟨b, d, e⟩ | ⟨L, hL, j, up, b, d, e⟩ | ⟨b, d, e⟩
 · refine sleep ⟨_, b⟩ fun G' hc ho _ _ _ => ?_
   simp only [Mode]; rw [hc]
   exact ⟨hp, .inl ⟨b, ho d, e⟩⟩
 · refine sleep ⟨_, e⟩ fun G' hc _ _ hk hkk => ?_
   simp only [Mode]
   exact ⟨hp, .inr (.inl ⟨L, by rw [hkk]; exact hL, j, up, by rw [hk L hL]; exact b, fun k hkm hne => by rw [hkk] at hkm; rw [hk k hkm]; exact d k hkm hne, e⟩)⟩
 · obtain ⟨n, g', hgo, hs'⟩ := hB d
   rw [hmain] at hgo
   refine Goal.of_go hi hgo (step_mine I hi hr rfl rfl hz ⟨rfl, rfl, rfl, rfl, rfl, rfl, rfl⟩ (deaf_s _ _) (.inr ⟨smA z, _, rfl, rfl, _, _, d.setSm _⟩) (bkE_s I g1) (bk_dullS _) hs' fun G' _ _ _ ha _ _ => ?_)
   simp only [Mode]
   exact ⟨hp, ha b, d.setSm _⟩
end
section
variable {ty : TypeId} {P : Program} {Fin : Perm -> Perm -> Goroutine -> World -> Prop} {Shun : Go.Loc -> Prop} {lo : Nat} {Z : Nat -> Prop} {w₀ : World} {G G' : Ghost} {gs : Array Goroutine} {t u : Trace} {w w' : World}
theorem late_role {n : Tree} {s : Stg} {c : Cfg} (he : s.early = false) : (Role.act n s c).cfg? = none /\ (Role.act n s c).stg? = none := by
 cases s <;> simp_all [Role.cfg?, Role.stg?, Stg.early]
theorem group_par (I : Inv ty P Fin Shun lo Z w₀ G gs w t) {i p : Nat} {s : Stg} {c cp : Cfg} {ρ : Role} {wk : Bool} {z : Nat} (hp : p < gs.size) (hc : (G.role p).cfg? = some cp) (hs : (G.role p).stg? = some s) (hz : cp.cur = some z) (hne : p ≠ i)
   (hold : (G.role i).ks = .rel c.up ∨ ∃ j, (G.role i).ks = .last j c.up) (hnew : ρ.ks = .rel c.up ∨ (∃ j, ρ.ks = .last j c.up) ∨ ρ.ks = .gone)
   (hrole : ∀ j, G'.role j = if j = i then ρ else wakeRole wk (G.role j)) (h1 : G'.H = G.H) (h2 : G'.own = G.own) (h3 : G'.rd = G.rd) (h4 : G'.W = G.W) (h5 : G'.par = G.par) (h6 : G'.kids = G.kids)
   (hT : w' = w ∨ ∃ a v, a.block = z /\ w' = w.setCell a v)
   (hm : (∀ L ∈ G.kids p, L ≠ i -> (G'.role L).ks = (G.role L).ks) -> (G'.role i).ks = ρ.ks -> Mode ty G' w' p z cp s) : GroupOk ty G' gs.size (t ++ u) w' p := by
 obtain ⟨g1, g2, g3, g4, g5⟩ := I.open hp hc hs hz
 have hsame : ∀ x, (∃ r, G.H x = some (.past r)) -> ∀ a, G.own x a ∨ G.rd x a -> Same a w w' := by
   rintro x ⟨r, hr⟩ a ha
   rcases hT with rfl | ⟨b, v, hb, rfl⟩
   · exact Same.refl a _
   · have := I.free x a (by rw [hr]; rfl) ha
     exact same_of_block (setCell_block w b v (fun e => by rw [e, hb, g1] at this; cases this))
 have hsz : w.heap.size <= w'.heap.size := by
   rcases hT with rfl | ⟨b, v, hb, rfl⟩
   · exact Nat.le_refl _
   · rw [setCell_size]; exact Nat.le_refl _
 have hks : ∀ k ∈ G.kids p, k ≠ i -> (G'.role k).ks = (G.role k).ks := fun k _ hk => by rw [hrole k, if_neg hk, wakeRole_ks]
 have hki : (G'.role i).ks = ρ.ks := by rw [hrole i, if_pos rfl]
 unfold GroupOk
 rw [hrole p, if_neg hne, wakeRole_cfg, wakeRole_stg, hc, hs]
 simp only [hz]
 refine ⟨by rw [h4]; exact g1, g2, ?_, by rw [h6]; exact g4, hm hks hki⟩
 rw [h6]
 refine g3.imp fun k v hk hv => ?_
 obtain ⟨a1, a2, a3, a4⟩ := hv
 refine ⟨a1, a2, by rw [h5]; exact a3, ?_⟩
 have rel : RelOk G t w z k v -> RelOk G' (t ++ u) w' z k v := by
   rintro ⟨⟨r, hr, hsaid⟩, hv⟩
   refine ⟨⟨r, by rw [h1]; exact hr, hsaid.app u⟩, ?_⟩
   rw [h2, h3]
   exact v.keep (hsame k ⟨r, hr⟩) hsz hv
 by_cases e : k = i
 · subst e
   rw [hki]
   have a5 : c.up = some (z, v) /\ RelOk G t w z k v := by
     rcases hold with h | ⟨j, h⟩ <;> (rw [h] at a4; exact a4)
   rcases hnew with h | ⟨j, h⟩ | h
   · rw [h]; exact ⟨a5.1, rel a5.2⟩
   · rw [h]; exact ⟨a5.1, rel a5.2⟩
   · rw [h]; exact rel a5.2
 · rw [hks k hk e]
   revert a4
   cases (G.role k).ks with
   | early up => exact id
   | rel up => exact fun q => ⟨q.1, rel q.2⟩
   | last j up => exact fun q => ⟨q.1, rel q.2⟩
   | gone => exact rel
theorem step_late (I : Inv ty P Fin Shun lo Z w₀ G gs w t) {i : Nat} {ι : Type} {f : ι -> Tree} {s : Stg} {c : Cfg} {ρ : Role} {g g' : Goroutine} {es : Array Event} {z : Nat} {v : Vow} (hi : gs[i]? = some g) (hr : G.role i = .act (.node ι f) s c) (he : s.early = false) (hup : c.up = some (z, v))
   (hT : w' = w ∨ ∃ a v, a.block = z /\ w' = w.setCell a v /\ WgLive ty z w') (hes : ∀ e ∈ es, BkE G w e) (hdl : ∀ j e x, es[j]? = some e -> (MemAct.ofEvent e).touch? = some x -> x.kind = .atomic -> 0 < deafBehind c.deaf (es.extract 0 j))
   (hnew : ρ.ks = .rel c.up ∨ (∃ j, ρ.ks = .last j c.up) ∨ ρ.ks = .gone) (hρ : ρ.cfg? = none /\ ρ.stg? = none /\ ρ.isBlk = false) (hfuel : ∀ y, ρ.tree? = some y -> Tree.Lt y (.node ι f))
   (hloc : Deaf t i = c.deaf -> c.main = (i == 0) -> (∀ j, G.H i ≠ some (.live j)) -> i ≠ 0 -> (∃ r, G.H i = some (.past r)) /\ c.cur = none /\ (∀ a, ¬ c.own a /\ ¬ c.rd a) -> Loc ty P Fin G (t ++ MemOp.ofEvents i g.frame.fn g.frame.place es) w' i g' ρ)
   (hm : ∀ (G' : Ghost) (p : Nat) (cp : Cfg) (s' : Stg), (G.role p).cfg? = some cp -> (G.role p).stg? = some s' -> (∀ L ∈ G.kids p, L ≠ i -> (G'.role L).ks = (G.role L).ks) -> (G'.role i).ks = ρ.ks -> G'.kids p = G.kids p -> (G.kids p).Nodup -> i ∈ G.kids p -> (G.kids p).length < 1001 -> (wakes P g g' = true -> (G'.role p).isBlk = false) -> ((G'.role p).isBlk = true -> (G.role p).isBlk = true) -> Mode ty G w p z cp s' -> Mode ty G' w' p z cp s') :
   ∃ G', Lt3 (mu G' gs.size) (mu G gs.size) /\ Inv ty P Fin Shun lo Z w₀ G' ((gs.map (woken P g g' w')).setIfInBounds i g') w' (t ++ MemOp.ofEvents i g.frame.fn g.frame.place es) := by
 obtain ⟨hlt, hl⟩ := I.here hi
 rw [hr] at hl
 obtain ⟨_, hmain, hdeaf, hup0, hH⟩ := hl
 rw [he] at hH
 simp only [Bool.false_eq_true, if_false] at hH
 obtain ⟨cp, sp, hpi, hkid, hcp, hsp, hz, hW, hnd, hmode, hko⟩ := I.up hlt (by rw [hr]; rfl) hup
 have hp : G.par i < gs.size := by omega
 have hi0 : i ≠ 0 := by omega
 have hnl : ∀ j, G.H i ≠ some (.live j) := by
   obtain ⟨r, h⟩ := hH.1
   intro j; rw [h]; simp
 obtain ⟨l1, l2⟩ := late_role (n := .node ι f) (c := c) he
 have hold : (G.role i).ks = .rel c.up ∨ ∃ j, (G.role i).ks = .last j c.up := by
   rw [hr]; cases s <;> simp_all [Stg.early, Role.ks]
 have hTt : Turn ty G w w' := by
   rcases hT with h | ⟨a, v, ha, h, hl⟩
   · exact .inl h
   · exact .inr ⟨a, v, by rw [ha, hW]; rfl, h, by rw [ha]; exact hl⟩
 have hlen : (G.kids (G.par i)).length < 1001 := by
   obtain ⟨_, x2, x3, _⟩ := I.open hp hcp hsp hz
   rw [x3.length]; exact x2
 obtain ⟨G', hrole, I'⟩ := step_bk (ρ := ρ) (g' := g') I hi hTt hes (.inr (by rw [hdeaf]; exact hdl)) (hloc hdeaf hmain hnl hi0 hH)
   (fun G' hrole h1 h2 h3 h4 h5 h6 p hpp => by
     by_cases e : p = G.par i
     · subst e
       refine group_par (c := c) I hpp hcp hsp hz (by omega) hold hnew hrole h1 h2 h3 h4 h5 h6 (hT.imp id fun ⟨a, v, ha, h, _⟩ => ⟨a, v, ha, h⟩) (fun a b => hm G' _ cp sp hcp hsp a b (by rw [h6]) hnd hkid hlen (fun hw => ?_) (fun hb => ?_) hmode)
       · rw [hrole _, if_neg (by omega), hw]
         cases G.role (G.par i) <;> rfl
       · rw [hrole _, if_neg (by omega)] at hb
         exact wakeRole_blk _ _ hb
     · refine groups_bk (q := G.par i) I hrole h1 h2 h3 h4 h5 h6 (hT.imp id fun ⟨a, v, ha, h, _⟩ => ⟨a, v, by rw [ha]; exact hW, h⟩) hpp (fun hk => ?_) (.inr e) (fun h => ?_)
       · obtain ⟨_, _, _, _, _, _, _, _, _, _, _, hk'⟩ := I.parent hk
         exact absurd hk'.2.2.1 (Ne.symm e)
       · rw [hr, l1, l2, hρ.1, hρ.2.1, hρ.2.2]; exact ⟨rfl, rfl, fun h => by cases h⟩)
 exact ⟨G', lt_fuel hrole hlt (by rw [hr]; rfl) hfuel, I'⟩
theorem tree_act {ι : Type} {f : ι -> Tree} (n : ι) (s : Stg) (c : Cfg) : ∀ y, (Role.act (f n) s c).tree? = some y -> Tree.Lt y (.node ι f) := fun y hy => by cases hy; exact Tree.lt_node n
theorem tree_quit {τ : Tree} (q : Nat) : ∀ y, (Role.quit q).tree? = some y -> Tree.Lt y τ := fun y hy => by cases hy
theorem late_ks {n : Tree} {s : Stg} {c : Cfg} (he : s.early = false) : (Role.act n s c).ks = .rel c.up ∨ ∃ j, (Role.act n s c).ks = .last j c.up := by
 cases s <;> simp_all [Stg.early, Role.ks]
theorem step_idle (I : Inv ty P Fin Shun lo Z w₀ G gs w t) {i : Nat} {ι : Type} {f : ι -> Tree} {n : ι} {s : Stg} {c : Cfg} {g g' : Goroutine} {es : Array Event} {z : Nat} {v : Vow} {sl : Option (Nat × Nat)} (hi : gs[i]? = some g) (hr : G.role i = .act (.node ι f) s c) (he : s.early = false) (hup : c.up = some (z, v))
   (hgo : stepG P c.main g w = .go g' w es) (hm : ∀ e ∈ es, e.mute = true) (hs' : Script ty P Fin (f n) s { c with deaf := deafBehind c.deaf es } g' w) : Goal ty P Fin Shun lo Z w₀ G gs w t sl i := by
 obtain ⟨hlt, hl⟩ := I.here hi
 rw [hr] at hl
 rw [hl.2.1] at hgo
 have hup0 := hl.2.2.2.1
 obtain ⟨l1, l2⟩ := late_role (n := f n) (c := { c with deaf := deafBehind c.deaf es }) he
 have e1 : (Role.act (f n) s { c with deaf := deafBehind c.deaf es }).ks = (G.role i).ks := by rw [hr]; cases s <;> rfl
 refine Goal.of_go hi hgo (step_late (ρ := .act (f n) s { c with deaf := deafBehind c.deaf es }) I hi hr he hup (.inl rfl) (fun e h => .inl (hm e h)) (fun j e x h hx => ?_) ?_ ⟨l1, l2, rfl⟩ (tree_act n _ _) (fun hd hmn _ _ hH => ?_) (fun G' p cp s' _ _ hk hki hkk hnd hin _ _ hblk hmode => ?_))
 · rw [touch_mute (hm e (Array.mem_of_getElem? h))] at hx; cases hx
 · exact (late_ks (c := { c with deaf := deafBehind c.deaf es }) he).imp id .inl
 · refine ⟨hs', hmn, by rw [Deaf_own, hd], hup0, ?_⟩
   rw [he]
   exact hH
 · have kk : ∀ L ∈ G.kids p, (G'.role L).ks = (G.role L).ks := fun L hL => by
     by_cases e : L = i
     · rw [e, hki, e1]
     · exact hk L hL e
   have cnt : Count G' p = Count G p := Count_same kk hkk
   have op : OpenK G p -> OpenK G' p := fun o k h => by rw [hkk] at h; rw [kk k h]; exact o k h
   have ag : AllGone G p -> AllGone G' p := fun o k h => by rw [hkk] at h; rw [kk k h]; exact o k h
   revert hmode
   cases s' with
   | work => simp only [Mode]; rw [cnt]; exact fun ⟨a, b, d⟩ => ⟨a, op b, d⟩
   | cas vs => simp only [Mode]; rw [cnt]; exact fun ⟨a, b, d, e⟩ => ⟨a, b, op d, e⟩
   | reg =>
     simp only [Mode]; rw [cnt]
     rintro ⟨a, ⟨b, d, e⟩ | ⟨L, hL, j, up, b, d, e⟩ | ⟨b, d, e⟩⟩
     · exact ⟨a, .inl ⟨b, op d, e⟩⟩
     · exact ⟨a, .inr (.inl ⟨L, by rw [hkk]; exact hL, j, up, by rw [kk L hL]; exact b, fun k h hne => by rw [hkk] at h; rw [kk k h]; exact d k h hne, e⟩)⟩
     · refine ⟨a, .inr (.inr ⟨ag b, d, ?_⟩)⟩
       cases hb : (G'.role p).isBlk with
       | false => rfl
       | true => rw [hblk hb] at e; cases e
   | awake => simp only [Mode]; exact fun ⟨a, b, d⟩ => ⟨a, ag b, d⟩
   | rel => exact id
   | last4 => exact id
   | last3 => exact id
   | last2 => exact id
theorem Mode.last {p z i j : Nat} {cp : Cfg} {s : Stg} {up : Option (Nat × Vow)} (h : Mode ty G w p z cp s) (hi : i ∈ G.kids p) (hk : (G.role i).ks = .last j up) :
   s = .reg /\ cp.pend = false /\ (∀ k ∈ G.kids p, k ≠ i -> (G.role k).ks = .gone) /\ WgAt ty z w (if j = 2 then 0 else 1) 0 := by
 have no : ¬ OpenK G p := fun o => by have := o i hi; rw [hk] at this; simp [KS.counted] at this
 have na : ¬ AllGone G p := fun o => by have := o i hi; rw [hk] at this; cases this
 cases s with
 | work => exact absurd h.2.1 no
 | cas vs => exact absurd h.2.2.1 no
 | reg =>
   obtain ⟨a, ⟨_, d, _⟩ | ⟨L, hL, j', up', b, d, e⟩ | ⟨b, _⟩⟩ := h
   · exact absurd d no
   · by_cases x : i = L
     · subst x
       rw [hk] at b
       cases b
       exact ⟨rfl, a, d, e⟩
     · have := d i hi x; rw [hk] at this; cases this
   · exact absurd b na
 | awake => exact absurd h.2.1 na
 | rel => exact h.elim
 | last4 => exact h.elim
 | last3 => exact h.elim
 | last2 => exact h.elim
theorem step_d2 (I : Inv ty P Fin Shun lo Z w₀ G gs w t) {i : Nat} {ι : Type} {f : ι -> Tree} {c : Cfg} {g : Goroutine} {z : Nat} {v : Vow} {sl : Option (Nat × Nat)} (hi : gs[i]? = some g) (hr : G.role i = .act (.node ι f) .last4 c) (hd : 0 < c.deaf) (hup : c.up = some (z, v))
   (h : WgAt ty z w 1 0 -> ∃ n, ∃ g', stepG P c.main g w = .go g' w #[ConcR.rd (stA z)] /\ Script ty P Fin (f n) .last3 c g' w) : Goal ty P Fin Shun lo Z w₀ G gs w t sl i := by
 obtain ⟨hlt, hl⟩ := I.here hi
 rw [hr] at hl
 obtain ⟨cp, sp, hpi, hkid, hcp, hsp, hz, hW, hnd, hmode, hko⟩ := I.up hlt (by rw [hr]; rfl) hup
 obtain ⟨_, _, _, m4⟩ := hmode.last hkid (by rw [hr]; rfl)
 obtain ⟨n, g', hgo, hs'⟩ := h m4
 rw [hl.2.1] at hgo
 have hup0 := hl.2.2.2.1
 refine Goal.of_go hi hgo (step_late (ρ := .act (f n) .last3 c) I hi hr rfl hup (.inl rfl) (bkE_r I hW) (bk_dull1 hd) (.inr (.inl ⟨3, rfl⟩)) ⟨rfl, rfl, rfl⟩ (tree_act n _ _) (fun hdd hmn _ _ hH => ⟨hs', hmn, by rw [Deaf_own, hdd, deaf_r], hup0, hH⟩) (fun G' p cp s' _ _ hk hki hkk hnd hin _ _ hblk hmode => ?_))
 obtain ⟨rfl, m1, m2, m3⟩ := hmode.last hin (by rw [hr]; rfl)
 exact ⟨m1, .inr (.inl ⟨i, by rw [hkk]; exact hin, 3, c.up, hki, fun k hkm hne => by rw [hkk] at hkm; rw [hk k hkm hne]; exact m2 k hkm hne, m3⟩)⟩
theorem step_d3 (I : Inv ty P Fin Shun lo Z w₀ G gs w t) {i : Nat} {ι : Type} {f : ι -> Tree} {c : Cfg} {g : Goroutine} {z : Nat} {v : Vow} {sl : Option (Nat × Nat)} (hi : gs[i]? = some g) (hr : G.role i = .act (.node ι f) .last3 c) (hd : 0 < c.deaf) (hup : c.up = some (z, v))
   (h : WgAt ty z w 1 0 -> ∃ n, ∃ g', stepG P c.main g w = .go g' (w.setCell (stA z) (.int .u64 0)) #[wr (stA z)] /\ Script ty P Fin (f n) .last2 c g' (w.setCell (stA z) (.int .u64 0))) : Goal ty P Fin Shun lo Z w₀ G gs w t sl i := by
 obtain ⟨hlt, hl⟩ := I.here hi
 rw [hr] at hl
 obtain ⟨cp, sp, hpi, hkid, hcp, hsp, hz, hW, hnd, hmode, hko⟩ := I.up hlt (by rw [hr]; rfl) hup
 obtain ⟨_, _, _, m4⟩ := hmode.last hkid (by rw [hr]; rfl)
 have m4' : WgAt ty z w 1 0 := m4
 obtain ⟨n, g', hgo, hs'⟩ := h m4
 rw [hl.2.1] at hgo
 have hup0 := hl.2.2.2.1
 have hpz : ∀ p cp', (G.role p).cfg? = some cp' -> True := fun _ _ _ => trivial
 refine Goal.of_go hi hgo (step_late (ρ := .act (f n) .last2 c) I hi hr rfl hup (.inr ⟨stA z, _, rfl, rfl, _, _, m4'.setSt _⟩) (bkE_w I hW) (bk_dull1 hd) (.inr (.inl ⟨2, rfl⟩)) ⟨rfl, rfl, rfl⟩ (tree_act n _ _) (fun hdd hmn _ _ hH => ⟨hs', hmn, by rw [Deaf_own, hdd, deaf_w], hup0, hH⟩) (fun G' p cp s' _ _ hk hki hkk hnd hin _ _ hblk hmode => ?_))
 obtain ⟨rfl, m1, m2, m3⟩ := hmode.last hin (by rw [hr]; rfl)
 exact ⟨m1, .inr (.inl ⟨i, by rw [hkk]; exact hin, 2, c.up, hki, fun k hkm hne => by rw [hkk] at hkm; rw [hk k hkm hne]; exact m2 k hkm hne, m4'.setSt _⟩)⟩
theorem step_d4 (I : Inv ty P Fin Shun lo Z w₀ G gs w t) {i : Nat} {ι : Type} {f : ι -> Tree} {c : Cfg} {g : Goroutine} {z : Nat} {v : Vow} {sl : Option (Nat × Nat)} (hi : gs[i]? = some g) (hr : G.role i = .act (.node ι f) .last2 c) (hmw : mayWake P g = true) (hup : c.up = some (z, v))
   (h : WgAt ty z w 0 0 -> ∃ g', stepG P c.main g w = .go g' (w.setCell (smA z) (.int .u32 1)) (semEvents (smA z)) /\ g'.status = .running /\ ∃ q, QuitsD P q c.deaf g') : Goal ty P Fin Shun lo Z w₀ G gs w t sl i := by
 obtain ⟨hlt, hl⟩ := I.here hi
 rw [hr] at hl
 obtain ⟨cp, sp, hpi, hkid, hcp, hsp, hz, hW, hnd, hmode, hko⟩ := I.up hlt (by rw [hr]; rfl) hup
 obtain ⟨_, _, _, m4⟩ := hmode.last hkid (by rw [hr]; rfl)
 have m4' : WgAt ty z w 0 0 := m4
 obtain ⟨g', hgo, hrun', q, hq⟩ := h m4
 rw [hl.2.1] at hgo
 have hwk : wakes P g g' = true := by simp [wakes, hmw, hrun']
 refine Goal.of_go hi hgo (step_late (ρ := .quit q) I hi hr rfl hup (.inr ⟨smA z, _, rfl, rfl, _, _, m4'.setSm _⟩) (bkE_s I hW) (bk_dullS _) (.inr (.inr rfl)) ⟨rfl, rfl, rfl⟩ (tree_quit q) (fun hdd hmn hnl hi0 hH => ⟨by rw [Deaf_own, hdd, deaf_s]; exact hq, hnl, hi0⟩) (fun G' p cp s' _ _ hk hki hkk hnd hin _ hw hblk hmode => ?_))
 obtain ⟨rfl, m1, m2, m3⟩ := hmode.last hin (by rw [hr]; rfl)
 refine ⟨m1, .inr (.inr ⟨fun k hkm => ?_, m4'.setSm _, hw hwk⟩)⟩
 rw [hkk] at hkm
 by_cases e : k = i
 · rw [e, hki]; rfl
 · rw [hk k hkm e]; exact m2 k hkm e
theorem step_d1 (I : Inv ty P Fin Shun lo Z w₀ G gs w t) {i : Nat} {ι : Type} {f : ι -> Tree} {c : Cfg} {g : Goroutine} {z : Nat} {vow : Vow} {sl : Option (Nat × Nat)} (hi : gs[i]? = some g) (hr : G.role i = .act (.node ι f) .rel c) (hd : 0 < c.deaf) (hup : c.up = some (z, vow))
   (h : ∀ v wt : Nat, wt <= 1 -> v < 2147483647 -> WgAt ty z w ((v + 1 : Nat) * KK + wt) 0 ->
       ∃ g', stepG P c.main g w = .go g' (w.setCell (stA z) (.int .u64 (v * KK + wt))) #[ConcR.rd (stA z), wr (stA z)] /\
         ((v = 0 /\ wt = 1) -> ∃ n, Script ty P Fin (f n) .last4 c g' (w.setCell (stA z) (.int .u64 (v * KK + wt)))) /\ (¬ (v = 0 /\ wt = 1) -> ∃ q, QuitsD P q c.deaf g')) : Goal ty P Fin Shun lo Z w₀ G gs w t sl i := by
 obtain ⟨hlt, hl⟩ := I.here hi
 rw [hr] at hl
 have hup0 := hl.2.2.2.1
 obtain ⟨cp, sp, hpi, hkid, hcp, hsp, hz, hW, hnd, hmode, hko⟩ := I.up hlt (by rw [hr]; rfl) hup
 have hki : (G.role i).ks = .rel c.up := by rw [hr]; rfl
 have hcounted : (G.role i).ks.counted = true := by rw [hki]; rfl
 have hpos : 1 <= Count G (G.par i) := List.countP_pos_iff.2 ⟨i, hkid, hcounted⟩
 have hlen : Count G (G.par i) < 1001 := by
   obtain ⟨_, x2, x3, _⟩ := I.open (by omega) hcp hsp hz
   have := Count_le G (G.par i)
   rw [x3.length] at this; omega
 have ng : ¬ AllGone G (G.par i) := fun o => by have := o i hkid; rw [hki] at this; cases this
 -- the count behind
 have dropC : ∀ G' : Ghost, (∀ L ∈ G.kids (G.par i), L ≠ i -> (G'.role L).ks = (G.role L).ks) -> (G'.role i).ks.counted = false -> G'.kids (G.par i) = G.kids (G.par i) -> Count G' (G.par i) + 1 = Count G (G.par i) := by
   intro G' h1 h2 h3
   unfold Count
   rw [h3]
   exact countP_drop hnd hkid (fun k hk hne => by rw [h1 k hk hne]) hcounted h2
 have openC : ∀ G' : Ghost, (∀ L ∈ G.kids (G.par i), L ≠ i -> (G'.role L).ks = (G.role L).ks) -> (G'.role i).ks = .gone -> G'.kids (G.par i) = G.kids (G.par i) -> OpenK G (G.par i) -> OpenK G' (G.par i) := by
   intro G' h1 h2 h3 o k hk
   rw [h3] at hk
   by_cases e : k = i
   · rw [e, h2]; exact .inr rfl
   · rw [h1 k hk e]; exact o k hk
 -- the parent of whom the step lemma speaks is this one
 have same : ∀ p, i ∈ G.kids p -> p = G.par i := fun p hp => by
   obtain ⟨_, _, _, _, _, _, _, _, _, _, _, hk'⟩ := I.parent hp
   exact hk'.2.2.1.symm
 have quit : ∀ (v wt : Nat) (g' : Goroutine) (q : Nat), stepG P c.main g w = .go g' (w.setCell (stA z) (.int .u64 (v * KK + wt))) #[ConcR.rd (stA z), wr (stA z)] -> QuitsD P q c.deaf g' -> (∃ st, WgAt ty z w st 0) ->
     (∀ (G' : Ghost), (∀ L ∈ G.kids (G.par i), L ≠ i -> (G'.role L).ks = (G.role L).ks) -> (G'.role i).ks = .gone -> G'.kids (G.par i) = G.kids (G.par i) -> Mode ty G' (w.setCell (stA z) (.int .u64 (v * KK + wt))) (G.par i) z cp sp) -> Goal ty P Fin Shun lo Z w₀ G gs w t sl i := by
   intro v wt g' q hgo hq ⟨st, hst⟩ hmm
   rw [hl.2.1] at hgo
   refine Goal.of_go hi hgo (step_late (ρ := .quit q) I hi hr rfl hup (.inr ⟨stA z, _, rfl, rfl, _, _, hst.setSt _⟩) (bkE_rw I hW) (bk_dull2 hd ⟨_, rfl⟩) (.inr (.inr rfl)) ⟨rfl, rfl, rfl⟩ (tree_quit q) (fun hdd hmn hnl hi0 hH => ⟨by rw [Deaf_own, hdd, deaf_rw]; exact hq, hnl, hi0⟩) (fun G' p cp' s' hcp' hsp' hk hki hkk hnd hin _ hw hblk hmode => ?_))
   obtain rfl := same p hin
   rw [hcp] at hcp'; rw [hsp] at hsp'
   cases hcp'; cases hsp'
   exact hmm G' hk hki hkk
 cases sp with
 | work =>
   obtain ⟨m1, m2, m3⟩ := hmode
   obtain ⟨v, hv⟩ : ∃ v, Count G (G.par i) + (if cp.pend then 1 else 0) = v + 1 := ⟨Count G (G.par i) + (if cp.pend then 1 else 0) - 1, by omega⟩
   have m1' : WgAt ty z w ((v + 1 : Nat) * KK + (0 : Nat)) 0 := by rw [hv] at m1; simpa using m1
   obtain ⟨g', hgo, _, hq⟩ := h v 0 (by omega) (by split at hv <;> omega) m1'
   obtain ⟨q, hq⟩ := hq (by simp)
   refine quit v 0 g' q hgo hq ⟨_, m1'⟩ fun G' hk hki' hkk => ?_
   have hd1 := dropC G' hk (by rw [hki']; rfl) hkk
   refine ⟨?_, openC G' hk hki' hkk m2, by omega⟩
   have e : Count G' (G.par i) + (if cp.pend then 1 else 0) = v := by omega
   rw [e]
   have := m1'.setSt ((v : Int) * KK + (0 : Nat))
   simpa using this
 | cas vs =>
   obtain ⟨hp, m1, m2, m3, m4⟩ := hmode
   obtain ⟨v, hv⟩ : ∃ v, Count G (G.par i) = v + 1 := ⟨Count G (G.par i) - 1, by omega⟩
   have m1' : WgAt ty z w ((v + 1 : Nat) * KK + (0 : Nat)) 0 := by rw [hv] at m1; simpa using m1
   obtain ⟨g', hgo, _, hq⟩ := h v 0 (by omega) (by omega) m1'
   obtain ⟨q, hq⟩ := hq (by simp)
   refine quit v 0 g' q hgo hq ⟨_, m1'⟩ fun G' hk hki' hkk => ?_
   have hd1 := dropC G' hk (by rw [hki']; rfl) hkk
   have e : Count G' (G.par i) = v := by omega
   refine ⟨hp, ?_, openC G' hk hki' hkk m2, by omega, m4⟩
   rw [e]
   have := m1'.setSt ((v : Int) * KK + (0 : Nat))
   simpa using this
 | reg =>
   obtain ⟨hp, ⟨m1, m2, m3⟩ | ⟨L, hL, j, up, b, d, _⟩ | ⟨b, _⟩⟩ := hmode
   · obtain ⟨v, hv⟩ : ∃ v, Count G (G.par i) = v + 1 := ⟨Count G (G.par i) - 1, by omega⟩
     have m1' : WgAt ty z w ((v + 1 : Nat) * KK + (1 : Nat)) 0 := by rw [hv] at m1; simpa using m1
     obtain ⟨g', hgo, hL, hq⟩ := h v 1 (by omega) (by omega) m1'
     by_cases hv0 : v = 0
     · obtain ⟨n, hs'⟩ := hL ⟨hv0, rfl⟩
       rw [hl.2.1] at hgo
       refine Goal.of_go hi hgo (step_late (ρ := .act (f n) .last4 c) I hi hr rfl hup (.inr ⟨stA z, _, rfl, rfl, _, _, m1'.setSt _⟩) (bkE_rw I hW) (bk_dull2 hd ⟨_, rfl⟩) (.inr (.inl ⟨4, rfl⟩)) ⟨rfl, rfl, rfl⟩ (tree_act n _ _) (fun hdd hmn _ _ hH => ⟨hs', hmn, by rw [Deaf_own, hdd, deaf_rw], hup0, hH⟩) (fun G' p cp' s' hcp' hsp' hk hki' hkk hnd hin _ hw hblk hmode => ?_))
       obtain rfl := same p hin
       rw [hcp] at hcp'; rw [hsp] at hsp'
       cases hcp'; cases hsp'
       have hd1 := dropC G' hk (by rw [hki']; rfl) hkk
       refine ⟨hp, .inr (.inl ⟨i, by rw [hkk]; exact hin, 4, c.up, hki', fun k hkm hne => ?_, ?_⟩)⟩
       · rw [hkk] at hkm
         rw [hk k hkm hne]
         refine (m2 k hkm).resolve_left fun hcnt => ?_
         have : 0 < Count G' (G.par i) := by
           refine List.countP_pos_iff.2 ⟨k, by rw [hkk]; exact hkm, ?_⟩
           rw [hk k hkm hne]; exact hcnt
         omega
       · have := m1'.setSt ((v : Int) * KK + (1 : Nat))
         subst hv0
         simpa using this
     · obtain ⟨q, hq⟩ := hq (fun x => hv0 x.1)
       refine quit v 1 g' q hgo hq ⟨_, m1'⟩ fun G' hk hki' hkk => ?_
       have hd1 := dropC G' hk (by rw [hki']; rfl) hkk
       have e : Count G' (G.par i) = v := by omega
       refine ⟨hp, .inl ⟨?_, openC G' hk hki' hkk m2, by omega⟩⟩
       rw [e]
       have := m1'.setSt ((v : Int) * KK + (1 : Nat))
       simpa using this
   · exfalso
     by_cases x : i = L
     · subst x; rw [hki] at b; cases b
     · have := d i hkid x; rw [hki] at this; cases this
   · exact absurd b ng
 | awake => exact absurd hmode.2.1 ng
 | rel => exact hmode.elim
 | last4 => exact hmode.elim
 | last3 => exact hmode.elim
 | last2 => exact hmode.elim
end
section
variable {ty : TypeId} {P : Program} {Fin : Perm -> Perm -> Goroutine -> World -> Prop} {Shun : Go.Loc -> Prop} {lo : Nat} {Z : Nat -> Prop} {w₀ : World} {G G' : Ghost} {gs : Array Goroutine} {t u : Trace} {w w' : World}
theorem ofEvents_one (g : Nat) (fn : FuncId) (pos : String) (m : Mark) : MemOp.ofEvents g fn pos #[mk m] = #[{ g, fn, pos, act := .mark m }] := by rw [ofEvents_eq]; simp [ConcR.ofEvent_mk]
theorem step_rel (I : Inv ty P Fin Shun lo Z w₀ G gs w t) {i : Nat} {ι : Type} {f : ι -> Tree} {c : Cfg} {g : Goroutine} {z : Nat} {v : Vow} {sl : Option (Nat × Nat)} (hi : gs[i]? = some g) (hr : G.role i = .act (.node ι f) .work c) (hcur : c.cur = none) (hd : c.deaf = 0) (hup : c.up = some (z, v)) (hok : v.ok c.own c.rd w)
   (h : ∃ n, ∃ g', stepG P c.main g w = .go g' w #[mk (.releaseMerge (stA z))] /\ Script ty P Fin (f n) .rel { c with own := fun _ => False, rd := fun _ => False } g' w) : Goal ty P Fin Shun lo Z w₀ G gs w t sl i := by
 obtain ⟨hlt, hl⟩ := I.here hi
 rw [hr] at hl
 obtain ⟨_, hmain, hdeaf, hup0, hH⟩ := hl
 simp only [Stg.early, if_true] at hH
 obtain ⟨hH, hown, hrd⟩ := hH
 obtain ⟨cp, sp, hpi, hkid, hcp, hsp, hz, hW, hnd, hmode, hko⟩ := I.up hlt (by rw [hr]; rfl) hup
 obtain ⟨n, g', hgo, hs'⟩ := h
 rw [hmain] at hgo
 have hi0 : i ≠ 0 := by omega
 have same : ∀ p, i ∈ G.kids p -> p = G.par i := fun p hp => by
   obtain ⟨_, _, _, _, _, _, _, _, _, _, _, hk'⟩ := I.parent hp
   exact hk'.2.2.1.symm
 let G' : Ghost := { G with role := fun j => if j = i then .act (f n) .rel { c with own := fun _ => False, rd := fun _ => False } else wakeRole (wakes P g g') (G.role j), H := upd G.H i (some (.past t.size)) }
 have hrole : ∀ j, G'.role j = if j = i then .act (f n) .rel { c with own := fun _ => False, rd := fun _ => False } else wakeRole (wakes P g g') (G.role j) := fun _ => rfl
 have hHi : G'.H i = some (.past t.size) := upd_same _ _ _
 have hHn : ∀ j, j ≠ i -> G'.H j = G.H j := fun j hj => upd_ne _ _ hj
 have hsome : ∀ j, (G'.H j).isSome = true -> (G.H j).isSome = true := fun j hj => by
   by_cases e : j = i
   · rw [e, hH]; rfl
   · rw [hHn j e] at hj; exact hj
 have eo : MemOp.ofEvents i g.frame.fn g.frame.place #[mk (.releaseMerge (stA z))] = #[{ g := i, fn := g.frame.fn, pos := g.frame.place, act := .mark (.releaseMerge (stA z)) }] := ofEvents_one _ _ _ _
 refine Goal.of_go hi hgo ⟨G', lt_fuel hrole hlt (by rw [hr]; rfl) (tree_act n _ _), I.next hi hrole (fun j hj => .inl ⟨hHn j hj, rfl, rfl⟩) (fun j c _ _ _ => Rely.refl ty c w)
   ⟨I.base.size, I.base.os, I.base.tape, I.base.output, I.base.groups, fun j a hj => I.base.low j a (hsome j hj), I.base.zlow, I.base.shun⟩ ?_ (I.dull.quiet fun op hop => ?_) (fun j k a hjk hj hk ho => I.sep j k a hjk (hsome j hj) (hsome k hk) ho) ?_ (fun p hp => ?_) I.bare (fun k hk0 hk => I.child k hk0 fun e => hk ?_)⟩
 · rw [eo]
   exact I.ti.release hH ⟨rfl, rfl⟩ (I.base.groups z _ hW).2 hHn hHi
 · rw [eo] at hop
   simp only [List.mem_toArray, List.mem_cons, List.not_mem_nil, or_false] at hop
   rw [hop]; rfl
 · refine ⟨hs', hmain, by rw [Deaf_own, hdeaf]; simp [deafBehind, mk], hup0, ?_⟩
   simp only [Stg.early, Bool.false_eq_true, if_false]
   exact ⟨⟨_, hHi⟩, hcur, fun a => ⟨id, id⟩⟩
 · by_cases ep : p = G.par i
   · subst ep
     obtain ⟨g1, g2, g3, g4, g5⟩ := I.open hp hcp hsp hz
     have hks : ∀ k ∈ G.kids (G.par i), k ≠ i -> (G'.role k).ks = (G.role k).ks := fun k _ hk => by rw [hrole k, if_neg hk, wakeRole_ks]
     have hki : (G'.role i).ks = .rel c.up := by rw [hrole i, if_pos rfl]; rfl
     have hcnt : ∀ k ∈ G.kids (G.par i), (G'.role k).ks.counted = (G.role k).ks.counted := fun k hk => by
       by_cases e : k = i
       · rw [e, hki, hr]; rfl
       · rw [hks k hk e]
     have cnt : Count G' (G.par i) = Count G (G.par i) := by
       unfold Count
       exact List.countP_congr fun k hk => by rw [hcnt k hk]
     have op : OpenK G (G.par i) -> OpenK G' (G.par i) := fun o k hk => by
       by_cases e : k = i
       · rw [e, hki]; exact .inl rfl
       · rw [hks k hk e]; exact o k hk
     have ng : ¬ AllGone G (G.par i) := fun o => by have := o i hkid; rw [hr] at this; cases this
     unfold GroupOk
     rw [hrole (G.par i), if_neg (by omega), wakeRole_cfg, wakeRole_stg, hcp, hsp]
     simp only [hz]
     refine ⟨g1, g2, g3.imp fun k v' hk hv => ?_, g4, ?_⟩
     · obtain ⟨a1, a2, a3, a4⟩ := hv
       refine ⟨a1, a2, a3, ?_⟩
       by_cases e : k = i
       · subst e
         rw [hki]
         rw [hr] at a4
         have a4' : c.up = some (z, v') := a4
         refine ⟨a4', ⟨_, hHi, ?_⟩, ?_⟩
         · rw [eo]; exact Said.new ⟨rfl, rfl⟩ (by rw [hdeaf, hd])
         · rw [hup] at a4'
           cases a4'
           show v.ok (G.own k) (G.rd k) w
           rw [hown, hrd]; exact hok
       · rw [hks k hk e]
         have rel : RelOk G t w z k v' -> RelOk G' (t ++ MemOp.ofEvents i g.frame.fn g.frame.place #[mk (.releaseMerge (stA z))]) w z k v' := by
           rintro ⟨⟨r, hr', hsaid⟩, hv⟩
           exact ⟨⟨r, by rw [hHn k e]; exact hr', hsaid.app _⟩, hv⟩
         revert a4
         cases (G.role k).ks with
         | early up => exact id
         | rel up => exact fun q => ⟨q.1, rel q.2⟩
         | last j up => exact fun q => ⟨q.1, rel q.2⟩
         | gone => exact rel
     · revert g5
       cases sp with
       | work => simp only [Mode]; rw [cnt]; exact fun ⟨a, b, d⟩ => ⟨a, op b, d⟩
       | cas vs => simp only [Mode]; rw [cnt]; exact fun ⟨a, b, d, e⟩ => ⟨a, b, op d, e⟩
       | reg =>
         simp only [Mode]; rw [cnt]
         rintro ⟨a, ⟨b, d, e⟩ | ⟨L, hL, j, up, b, d, e⟩ | ⟨b, d, e⟩⟩
         · exact ⟨a, .inl ⟨b, op d, e⟩⟩
         · exfalso
           by_cases x : i = L
           · subst x; rw [hr] at b; cases b
           · have := d i hkid x; rw [hr] at this; cases this
         · exact absurd b ng
       | awake => simp only [Mode]; exact fun ⟨_, b, _⟩ => absurd b ng
       | rel => exact id
       | last4 => exact id
       | last3 => exact id
       | last2 => exact id
   · by_cases ei : p = i
     · subst ei
       have hg := I.group p hp
       unfold GroupOk at hg ⊢
       rw [hr] at hg
       rw [hrole p, if_pos rfl]
       simp only [Role.cfg?, Role.stg?, Stg.early, if_true, hcur] at hg
       simp only [Role.cfg?, Stg.early, Bool.false_eq_true, if_false]
       exact hg.1
     · refine groups_keep (G' := G') I hrole hp (fun hk => absurd (same p hk) ep) rfl rfl (fun k hk => .inl ⟨rfl, rfl, hHn k fun e => ep (same p (e ▸ hk))⟩) (fun _ h => h) (fun _ _ _ _ h => h) (fun k _ a _ => Same.refl a w) (Nat.le_refl _) (fun h => absurd h ei)
 · by_cases e2 : k = i
   · rw [e2, hH] at e; cases e
   · rw [hHn k e2]; exact e
theorem zip_map_mem {α β : Type} {f : Nat -> α} {R : Nat -> β -> Prop} : ∀ {l : List Nat} {m : List β}, All2 R l m -> ∀ x ∈ (l.map f).zip m, ∃ k ∈ l, x.1 = f k /\ R k x.2 := by
 intro l m h
 induction h with
 | nil => intro x hx; simp at hx
 | @cons a b l m hab _ ih =>
   intro x hx
   simp only [List.map_cons, List.zip_cons_cons, List.mem_cons] at hx
   rcases hx with rfl | hx
   · exact ⟨a, by simp, rfl, hab⟩
   · obtain ⟨k, hk, h1, h2⟩ := ih x hx
     exact ⟨k, by simp [hk], h1, h2⟩
theorem step_acq (I : Inv ty P Fin Shun lo Z w₀ G gs w t) {i : Nat} {ι : Type} {f : ι -> Tree} {c : Cfg} {g : Goroutine} {z : Nat} {sl : Option (Nat × Nat)} (hi : gs[i]? = some g) (hr : G.role i = .act (.node ι f) .awake c) (hd : c.deaf = 0) (hz : c.cur = some z)
   (h : ∃ g', stepG P c.main g w = .go g' w #[mk (.acquire (stA z))] /\
       ∀ l : List (Perm × Perm), l.length = c.kids.length -> (∀ x ∈ l.zip c.kids, x.2.ok x.1.1 x.1.2 w) -> ∃ n, Script ty P Fin (f n) .work { c with own := fun a => c.own a ∨ anyOf l (·.1) a, rd := fun a => c.rd a ∨ anyOf l (·.2) a, cur := none, ub := 0, kids := [] } g' w) : Goal ty P Fin Shun lo Z w₀ G gs w t sl i := by
 obtain ⟨hlt, hl⟩ := I.here hi
 rw [hr] at hl
 obtain ⟨_, hmain, hdeaf, hup0, hH⟩ := hl
 simp only [Stg.early, if_true] at hH
 obtain ⟨hH, hown, hrd⟩ := hH
 have hHs : (G.H i).isSome = true := by rw [hH]; rfl
 obtain ⟨g1, g2, g3, g4, g5⟩ := I.open (c := c) (s := .awake) hlt (by rw [hr]; rfl) (by rw [hr]; rfl) hz
 obtain ⟨hpend, hgone, _⟩ := g5
 obtain ⟨g', hgo, hs'⟩ := h
 rw [hmain] at hgo
 have kidRel : ∀ k ∈ G.kids i, i < k /\ k < gs.size /\ G.par k = i /\ (∃ r, G.H k = some (.past r) /\ Said t (stA z) r) := by
   intro k hk
   obtain ⟨v, _, a1, a2, a3, a4⟩ := g3.get hk
   rw [hgone k hk] at a4
   exact ⟨a1, a2, a3, a4.1⟩
 have kidSome : ∀ k ∈ G.kids i, (G.H k).isSome = true := fun k hk => by
   obtain ⟨_, _, _, r, hr', _⟩ := kidRel k hk
   rw [hr']; rfl
 have kidQuit : ∀ k ∈ G.kids i, ∃ q, G.role k = .quit q := by
   intro k hk
   have := hgone k hk
   revert this
   cases G.role k with
   | act n s c => cases s <;> simp [Role.ks]
   | blk n c => simp [Role.ks]
   | quit q => exact fun _ => ⟨q, rfl⟩
 let l : List (Perm × Perm) := (G.kids i).map fun k => (G.own k, G.rd k)
 obtain ⟨n, hs''⟩ := hs' l (by simp [l, g3.length]) (fun x hx => by
   obtain ⟨k, hk, e, hv⟩ := zip_map_mem g3 x hx
   rw [e]
   have a4 := hv.2.2.2
   rw [hgone k hk] at a4
   exact a4.2)
 have any1 : ∀ a, anyOf l (·.1) a ↔ ∃ k ∈ G.kids i, G.own k a := fun a => ⟨fun ⟨x, hx, h⟩ => by obtain ⟨k, hk, rfl⟩ := List.mem_map.1 hx; exact ⟨k, hk, h⟩, fun ⟨k, hk, h⟩ => ⟨_, List.mem_map.2 ⟨k, hk, rfl⟩, h⟩⟩
 have any2 : ∀ a, anyOf l (·.2) a ↔ ∃ k ∈ G.kids i, G.rd k a := fun a => ⟨fun ⟨x, hx, h⟩ => by obtain ⟨k, hk, rfl⟩ := List.mem_map.1 hx; exact ⟨k, hk, h⟩, fun ⟨k, hk, h⟩ => ⟨_, List.mem_map.2 ⟨k, hk, rfl⟩, h⟩⟩
 let c' : Cfg := { c with own := fun a => c.own a ∨ anyOf l (·.1) a, rd := fun a => c.rd a ∨ anyOf l (·.2) a, cur := none, ub := 0, kids := [] }
 open Classical in
 let G' : Ghost := { G with role := fun j => if j = i then .act (f n) .work c' else wakeRole (wakes P g g') (G.role j), H := fun k => if k ∈ G.kids i then none else G.H k, own := upd G.own i c'.own, rd := upd G.rd i c'.rd, kids := upd G.kids i [] }
 have hrole : ∀ j, G'.role j = if j = i then .act (f n) .work c' else wakeRole (wakes P g g') (G.role j) := fun _ => rfl
 have hHk : ∀ k, k ∈ G.kids i -> G'.H k = none := fun k hk => by simp [G', hk]
 have hHn : ∀ k, k ∉ G.kids i -> G'.H k = G.H k := fun k hk => by simp [G', hk]
 have hii : i ∉ G.kids i := fun hk => by have := (kidRel i hk).1; omega
 have hne : ∀ j, j ≠ i -> G'.own j = G.own j /\ G'.rd j = G.rd j := fun j hj => ⟨upd_ne _ _ hj, upd_ne _ _ hj⟩
 have hsame : G'.own i = c'.own /\ G'.rd i = c'.rd := ⟨upd_same _ _ _, upd_same _ _ _⟩
 have hsome : ∀ j, (G'.H j).isSome = true -> (G.H j).isSome = true /\ j ∉ G.kids i := fun j hj => by
   by_cases e : j ∈ G.kids i
   · rw [hHk j e] at hj; cases hj
   · rw [hHn j e] at hj; exact ⟨hj, e⟩
 have own' : ∀ a, c'.own a -> ∃ k, (k = i ∨ k ∈ G.kids i) /\ G.own k a := fun a h => by
   rcases h with h | h
   · exact ⟨i, .inl rfl, by rw [hown]; exact h⟩
   · obtain ⟨k, hk, ho⟩ := (any1 a).1 h
     exact ⟨k, .inr hk, ho⟩
 have rd' : ∀ a, c'.rd a -> ∃ k, (k = i ∨ k ∈ G.kids i) /\ G.rd k a := fun a h => by
   rcases h with h | h
   · exact ⟨i, .inl rfl, by rw [hrd]; exact h⟩
   · obtain ⟨k, hk, ho⟩ := (any2 a).1 h
     exact ⟨k, .inr hk, ho⟩
 have kSome : ∀ k, (k = i ∨ k ∈ G.kids i) -> (G.H k).isSome = true := fun k hk => hk.elim (fun e => by rw [e]; exact hHs) (kidSome k)
 have eo : MemOp.ofEvents i g.frame.fn g.frame.place #[mk (.acquire (stA z))] = #[{ g := i, fn := g.frame.fn, pos := g.frame.place, act := .mark (.acquire (stA z)) }] := ofEvents_one _ _ _ _
 have e1 : (G.role i).ks = .early c.up := by rw [hr]; rfl
 refine Goal.of_go hi hgo ⟨G', lt_fuel hrole hlt (by rw [hr]; rfl) (tree_act n _ _), I.next hi hrole (fun j hj => ?_) (fun j c _ _ _ => Rely.refl ty c w)
   ⟨I.base.size, I.base.os, I.base.tape, I.base.output, I.base.groups, fun j a hj h => ?_, I.base.zlow, I.base.shun⟩ ?_ (I.dull.quiet fun op hop => ?_) ?_ ?_ (fun p hp => ?_) (fun p hp => ?_) (fun k hk0 hk => ?_)⟩
 · by_cases e : j ∈ G.kids i
   · exact .inr ⟨kidQuit j e, hHk j e⟩
   · exact .inl ⟨hHn j e, (hne j hj).1, (hne j hj).2⟩
 · obtain ⟨hj', hjk⟩ := hsome j hj
   by_cases e : j = i
   · subst e
     rw [hsame.1, hsame.2] at h
     rcases h with h | h
     · obtain ⟨k, hk, ho⟩ := own' a h
       exact I.base.low k a (kSome k hk) (.inl ho)
     · obtain ⟨k, hk, ho⟩ := rd' a h
       exact I.base.low k a (kSome k hk) (.inr ho)
   · rw [(hne j e).1, (hne j e).2] at h
     exact I.base.low j a hj' h
 · rw [eo]
   refine I.ti.acquire (p := i) (z := stA z) (fun k => k ∈ G.kids i) hH hii ⟨rfl, rfl⟩ (by rw [hdeaf, hd]) (I.base.groups z _ g1).2 (by show (G.W z).isSome = true; rw [g1]; rfl) (fun k hk => (kidRel k hk).2.2.2) hHn hHk (fun j a h => ?_) (fun j a h => ?_)
   · by_cases e : j = i
     · subst e
       rw [hsame.1] at h
       obtain ⟨k, hk | hk, ho⟩ := own' a h
       · subst hk; exact .inl ho
       · exact .inr ⟨rfl, k, hk, ho⟩
     · rw [(hne j e).1] at h; exact .inl h
   · by_cases e : j = i
     · subst e
       rw [hsame.2] at h
       obtain ⟨k, hk | hk, ho⟩ := rd' a h
       · subst hk; exact .inl ho
       · exact .inr (.inr ⟨rfl, k, hk, .inr ho⟩)
     · rw [(hne j e).2] at h; exact .inl h
 · rw [eo] at hop
   simp only [List.mem_toArray, List.mem_cons, List.not_mem_nil, or_false] at hop
   rw [hop]; rfl
 · intro j k a hjk hj hk ho
   obtain ⟨hj', hjn⟩ := hsome j hj
   obtain ⟨hk', hkn⟩ := hsome k hk
   by_cases e : j = i
   · subst e
     rw [hsame.1] at ho
     rw [(hne k (Ne.symm hjk)).1, (hne k (Ne.symm hjk)).2]
     obtain ⟨x, hx, ho'⟩ := own' a ho
     exact I.sep x k a (hx.elim (fun e => by rw [e]; exact hjk) (fun hx e => hkn (e ▸ hx))) (kSome x hx) hk' ho'
   · rw [(hne j e).1] at ho
     by_cases e2 : k = i
     · subst e2
       rw [hsame.1, hsame.2]
       have key : ∀ x, (x = k ∨ x ∈ G.kids k) -> ¬ G.own x a /\ ¬ G.rd x a := fun x hx => I.sep j x a (hx.elim (fun e => by rw [e]; exact hjk) (fun hx e => hjn (e ▸ hx))) hj' (kSome x hx) ho
       refine ⟨fun h => ?_, fun h => ?_⟩
       · obtain ⟨x, hx, hxo⟩ := own' a h
         exact (key x hx).1 hxo
       · obtain ⟨x, hx, hxo⟩ := rd' a h
         exact (key x hx).2 hxo
     · rw [(hne k e2).1, (hne k e2).2]
       exact I.sep j k a hjk hj' hk' ho
 · refine ⟨hs'', hmain, by rw [Deaf_own, hdeaf]; simp [deafBehind, mk, c'], hup0, ?_⟩
   simp only [Stg.early, if_true]
   exact ⟨by rw [hHn i hii]; exact hH, hsame.1, hsame.2⟩
 · by_cases ei : p = i
   · subst ei
     unfold GroupOk
     rw [hrole p, if_pos rfl]
     simp only [Role.cfg?, Role.stg?, Stg.early, if_true]
     exact ⟨upd_same _ _ _, rfl, hpend, trivial⟩
   · refine groups_keep (G' := G') I hrole hp (fun _ => by rw [hr]; rfl) rfl (upd_ne _ _ ei) (fun k hk => ?_) (fun _ h => h) (fun _ _ _ _ h => h) (fun k _ a _ => Same.refl a w) (Nat.le_refl _) (fun h => absurd h ei)
     by_cases ek : k = i
     · exact .inr ⟨ek, _, e1⟩
     · refine .inl ⟨(hne k ek).1, (hne k ek).2, hHn k fun hk2 => ?_⟩
       obtain ⟨_, _, _, _, _, _, _, _, _, _, _, x⟩ := I.parent hk
       exact ei (x.2.2.1.symm.trans (kidRel k hk2).2.2.1)
 · show upd G.kids i [] p = []
   rw [upd_ne _ _ (by omega)]
   exact I.bare p hp
 · by_cases e : k ∈ G.kids i
   · exact absurd (hHk k e) hk
   · have := I.child k hk0 (by rw [<- hHn k e]; exact hk)
     show k ∈ upd G.kids i [] (G.par k)
     by_cases e2 : G.par k = i
     · rw [e2] at this; exact absurd this e
     · rw [upd_ne _ _ e2]; exact this
end
end Go.Nest
