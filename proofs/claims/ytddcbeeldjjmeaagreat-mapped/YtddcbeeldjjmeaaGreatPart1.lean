/- WHAT IS HELD OF A TRACE WHILE MANY GOROUTINES WORK, each on cells of its own, started and joined one inside the other: 'TI', with its laws: a step, a go statement, a release, an acquire, a new group. -/
import Derived.Conc.Beside
import Derived.Conc.CrowdTrace
import Derived.Conc.CrowdRun
namespace Go.Nest
open Go Go.Conc
inductive Holder where
 | live (g : Nat)
 | past (r : Nat)
def Holder.has (t : Trace) : Holder -> Nat -> Prop
 | .live g, j => Knows t g j
 | .past r, j => Before t j r
theorem Holder.has.app {t : Trace} (u : Trace) : ∀ {h : Holder} {j : Nat}, h.has t j -> h.has (t ++ u) j
 | .live _, _, k => Knows.app u k
 | .past _, _, k => Before.app u k
def key : Go.Loc -> Option Addr
 | .cell a => some a
 | .obj r => some ⟨r, 0, none⟩
 | _ => none
theorem key_mem {l : Go.Loc} {a : Addr} (h : key l = some a) : l.isMemory = true := by
 cases l <;> simp_all [key, Go.Loc.isMemory]
def InW (W : Nat -> Option Nat) (l : Loc) : Prop := ∃ a, key l = some a /\ (W a.block).isSome = true
structure TI (Shun : Loc -> Prop) (t : Trace) (H : Nat -> Option Holder) (own rd : Nat -> Addr -> Prop) (W : Nat -> Option Nat) (B : Nat) : Prop where
 clean : ∀ said, ¬ Race said t
 own : ∀ i h a, H i = some h -> own i a -> ∀ j x, touchAt t j = some x -> key x.loc = some a -> h.has t j
 rd : ∀ i h a, H i = some h -> rd i a -> ∀ j x, touchAt t j = some x -> key x.loc = some a -> x.write = true -> h.has t j
 wg : ∀ j x a, touchAt t j = some x -> key x.loc = some a -> ∀ p, W a.block = some p -> x.kind = .atomic ∨ (x.kind = .said /\ t.g? j = some p)
 all : ∀ j x, touchAt t j = some x -> x.loc.isMemory = true -> (∃ i h, H i = some h /\ h.has t j) ∨ (x.kind = .atomic /\ (Shun x.loc ∨ InW W x.loc))
 seen : ∀ op ∈ t, op.act.low B
 norel : ∀ op ∈ t, ∀ a, (W a.block).isSome = true -> op.act ≠ .mark (.release a)
def Okt (own rd : Nat -> Addr -> Prop) (W : Nat -> Option Nat) (B : Nat) (i : Nat) (x : Touch) : Prop :=
 ∃ a, key x.loc = some a /\
   ((W a.block = none /\ (own i a ∨ (rd i a /\ x.write = false) ∨ B <= a.block)) ∨
    (x.kind = .atomic /\ (W a.block).isSome = true) ∨
    (x.kind = .said /\ W a.block = some i))
theorem touch_low {act : MemAct} {B : Nat} {x : Touch} {a : Addr} (h : act.low B) (hx : act.touch? = some x) (hl : key x.loc = some a) : a.block < B := by
 cases act with
 | access e =>
   simp only [MemAct.touch?, Option.some.injEq] at hx
   subst hx
   obtain ⟨l, wr, sy⟩ := e
   cases l <;> simp only [key, Option.some.injEq, reduceCtorEq] at hl <;> (subst hl; exact h)
 | mark m =>
   cases m <;> simp only [MemAct.touch?, Option.some.injEq, reduceCtorEq] at hx <;> (subst hx; simp only [key, Option.some.injEq] at hl; subst hl; exact h)
 | _ => simp [MemAct.touch?] at hx
section
variable {Shun : Loc -> Prop} {t u : Trace} {H : Nat -> Option Holder} {own rd own' rd' : Nat -> Addr -> Prop} {W : Nat -> Option Nat} {B B' : Nat}
theorem TI.low (T : TI Shun t H own rd W B) {j : Nat} {x : Touch} {a : Addr} (h : touchAt t j = some x) (hl : key x.loc = some a) : a.block < B := by
 obtain ⟨op, ho, hx⟩ := touch_of h
 exact touch_low (T.seen op (mem_of_getElem? ho)) hx hl
def Sep (H : Nat -> Option Holder) (own rd : Nat -> Addr -> Prop) : Prop :=
 ∀ i j a, i ≠ j -> (H i).isSome = true -> (H j).isSome = true -> own i a -> ¬ own j a /\ ¬ rd j a
theorem TI.step (T : TI Shun t H own rd W B) (hS : Sep H own rd) {i : Nat} (hi : H i = some (.live i)) (hB : B <= B')
   (hu : ∀ op ∈ u, op.g = i /\ op.act.low B' /\ (∀ x, op.act.touch? = some x -> Okt own rd W B i x) /\ ∀ a, (W a.block).isSome = true -> op.act ≠ .mark (.release a))
   (hown : ∀ a, own' i a -> own i a ∨ (B <= a.block)) (hrd : ∀ a, rd' i a -> rd i a ∨ own i a ∨ B <= a.block)
   (hother : ∀ j, j ≠ i -> own' j = own j /\ rd' j = rd j) (hlow : ∀ j a, j ≠ i -> (H j).isSome = true -> own j a ∨ rd j a -> a.block < B)
   (hfree : ∀ j a, (H j).isSome = true -> own j a ∨ rd j a -> W a.block = none) :
   TI Shun (t ++ u) H own' rd' W B' := by
 have kn : ∀ j x, touchAt (t ++ u) j = some x -> t.size <= j -> Knows (t ++ u) i j := by
   intro j x hx hj
   obtain ⟨op, ho, _⟩ := touch_of hx
   have := knows_own ho
   rcases getElem?_append_cases ho with ⟨hlt, _⟩ | ⟨_, hou⟩
   · omega
   · rwa [(hu op hou).1] at this
 have old : ∀ j x, touchAt (t ++ u) j = some x -> j < t.size -> touchAt t j = some x := fun j x hx hj => by rwa [touchAt_old hj] at hx
 have new : ∀ j x, touchAt (t ++ u) j = some x -> t.size <= j -> Okt own rd W B i x := by
   intro j x hx hj
   obtain ⟨op, ho, hop⟩ := touch_of hx
   rcases getElem?_append_cases ho with ⟨hlt, _⟩ | ⟨_, hou⟩
   · omega
   · exact (hu op hou).2.2.1 x hop
 refine ⟨?_, ?_, ?_, ?_, ?_, ?_, ?_⟩
 · intro said
   refine noRace_append (T.clean said) (fun op hop => (hu op hop).1) fun j a ha op hop b hb hc => ?_
   obtain ⟨ad, hl, hcase⟩ := (hu op hop).2.2.1 b hb
   have hla : key a.loc = some ad := by rw [hc.1]; exact hl
   rcases hcase with ⟨_, ho | ⟨hr, hw⟩ | hB'⟩ | ⟨hk, hW⟩ | ⟨hk, hW⟩
   · exact T.own i _ ad hi ho j a ha hla
   · have haw : a.write = true := by
       rcases hc.2.2.1 with h | h
       · exact h
       · rw [hw] at h; cases h
     exact T.rd i _ ad hi hr j a ha hla haw
   · have := T.low ha hla; omega
   · obtain ⟨p, hp⟩ := Option.isSome_iff_exists.1 hW
     rcases T.wg j a ad ha hla p hp with h | ⟨h, _⟩
     · rcases hc.2.2.2 with x | x | ⟨_, x, _⟩
       · rw [h] at x; cases x
       · rw [hk] at x; cases x
       · rw [h] at x; cases x
     · rcases hc.2.2.2 with x | x | ⟨_, _, x⟩
       · rw [h] at x; cases x
       · rw [hk] at x; cases x
       · rw [hk] at x; cases x
   · rcases T.wg j a ad ha hla i hW with h | ⟨h, hg⟩
     · rcases hc.2.2.2 with x | x | ⟨_, x, _⟩
       · rw [h] at x; cases x
       · rw [hk] at x; cases x
       · rw [h] at x; cases x
     · obtain ⟨y, hy, hyg⟩ := Option.map_eq_some_iff.1 hg
       have := knows_own hy
       rwa [hyg] at this
 · intro k h a hk hok j x hx hl
   rcases Nat.lt_or_ge j t.size with hj | hj
   · have hx' := old j x hx hj
     by_cases hki : k = i
     · subst hki
       rw [hi] at hk; cases hk
       rcases hown a hok with h | h
       · exact (T.own k _ a hi h j x hx' hl).app u
       · have := T.low hx' hl; omega
     · rw [(hother k hki).1] at hok
       exact (T.own k h a hk hok j x hx' hl).app u
   · by_cases hki : k = i
     · subst hki
       rw [hi] at hk; cases hk
       exact kn j x hx hj
     · rw [(hother k hki).1] at hok
       obtain ⟨ad, hl', hcase⟩ := new j x hx hj
       have e : ad = a := by rw [hl] at hl'; cases hl'; rfl
       subst e
       have hks : (H k).isSome = true := by rw [hk]; rfl
       have his : (H i).isSome = true := by rw [hi]; rfl
       have hfr := hfree k ad hks (.inl hok)
       rcases hcase with ⟨_, ho | ⟨hr, _⟩ | hB'⟩ | ⟨_, hW⟩ | ⟨_, hW⟩
       · exact absurd ho (hS k i ad hki hks his hok).1
       · exact absurd hr (hS k i ad hki hks his hok).2
       · have := hlow k ad hki hks (.inl hok); omega
       · rw [hfr] at hW; cases hW
       · rw [hfr] at hW; cases hW
 · intro k h a hk hrk j x hx hl hw
   rcases Nat.lt_or_ge j t.size with hj | hj
   · have hx' := old j x hx hj
     by_cases hki : k = i
     · subst hki
       rw [hi] at hk; cases hk
       rcases hrd a hrk with h | h | h
       · exact (T.rd k _ a hi h j x hx' hl hw).app u
       · exact (T.own k _ a hi h j x hx' hl).app u
       · have := T.low hx' hl; omega
     · rw [(hother k hki).2] at hrk
       exact (T.rd k h a hk hrk j x hx' hl hw).app u
   · by_cases hki : k = i
     · subst hki
       rw [hi] at hk; cases hk
       exact kn j x hx hj
     · rw [(hother k hki).2] at hrk
       obtain ⟨ad, hl', hcase⟩ := new j x hx hj
       have e : ad = a := by rw [hl] at hl'; cases hl'; rfl
       subst e
       have hks : (H k).isSome = true := by rw [hk]; rfl
       have his : (H i).isSome = true := by rw [hi]; rfl
       have hfr := hfree k ad hks (.inr hrk)
       rcases hcase with ⟨_, ho | ⟨_, hr⟩ | hB'⟩ | ⟨_, hW⟩ | ⟨_, hW⟩
       · exact absurd hrk (hS i k ad (Ne.symm hki) his hks ho).2
       · rw [hr] at hw; cases hw
       · have := hlow k ad hki hks (.inr hrk); omega
       · rw [hfr] at hW; cases hW
       · rw [hfr] at hW; cases hW
 · intro j x a hx hl p hp
   rcases Nat.lt_or_ge j t.size with hj | hj
   · rw [g?_old hj]
     exact T.wg j x a (old j x hx hj) hl p hp
   · obtain ⟨ad, hl', hcase⟩ := new j x hx hj
     have e : ad = a := by rw [hl] at hl'; cases hl'; rfl
     subst e
     rcases hcase with ⟨hn, _⟩ | ⟨hk, _⟩ | ⟨hk, hW⟩
     · rw [hn] at hp; cases hp
     · exact .inl hk
     · rw [hp] at hW
       cases hW
       refine .inr ⟨hk, ?_⟩
       obtain ⟨op, ho, _⟩ := touch_of hx
       rcases getElem?_append_cases ho with ⟨hlt, _⟩ | ⟨_, hou⟩
       · omega
       · simp only [Trace.g?, ho, Option.map_some]
         rw [(hu op hou).1]
 · intro j x hx hm
   rcases Nat.lt_or_ge j t.size with hj | hj
   · rcases T.all j x (old j x hx hj) hm with ⟨k, h, hk, hh⟩ | h
     · exact .inl ⟨k, h, hk, hh.app u⟩
     · exact .inr h
   · exact .inl ⟨i, _, hi, kn j x hx hj⟩
 · exact seen_app (fun op hop => MemAct.low_mono hB (T.seen op hop)) fun op hop => (hu op hop).2.1
 · intro op hop a ha
   rcases Array.mem_append.1 hop with h | h
   · exact T.norel op h a ha
   · exact (hu op h).2.2.2 a ha
theorem TI.less (T : TI Shun t H own rd W B) (ho : ∀ i a, own' i a -> own i a) (hr : ∀ i a, rd' i a -> rd i a ∨ own i a) : TI Shun t H own' rd' W B :=
 ⟨T.clean, fun i h a hi hx => T.own i h a hi (ho i a hx), fun i h a hi hx j x hj hl hw => (hr i a hx).elim (fun y => T.rd i h a hi y j x hj hl hw) (fun y => T.own i h a hi y j x hj hl), T.wg, T.all, T.seen, T.norel⟩
end
section
variable {Shun : Loc -> Prop} {t u : Trace} {H H' : Nat -> Option Holder} {own rd own' rd' : Nat -> Addr -> Prop} {W W' : Nat -> Option Nat} {B B' : Nat}
theorem fork_knows' {t : Trace} {p k : Nat} {x y : MemOp} (hx : x.g = p /\ x.act = .go k) (hy : y.g = k /\ y.act = .start) (h0 : Deaf t p = 0) (hk : Deaf t k = 0) {i : Nat} (h : Knows t p i) : Knows (t ++ #[x, y]) k i := by
 have hs : (t ++ #[x, y]).size = t.size + 2 := by simp
 have gx : (t ++ #[x, y])[t.size]? = some x := by simp
 have gy : (t ++ #[x, y])[t.size + 1]? = some y := by
   rw [Array.getElem?_append_right (by omega)]; simp
 have dx : (t ++ #[x, y]).deaf p t.size = 0 := by rw [deaf_old (Nat.le_refl _)]; exact h0
 have dy : (t ++ #[x, y]).deaf k (t.size + 1) = 0 := by
   rw [deaf_succ gx, deaf_old (Nat.le_refl _)]
   show deafStep k (Deaf t k) x = 0
   rw [hk]; unfold deafStep; rw [hx.2]
 have n1 : HappensBefore (t ++ #[x, y]) t.size (t.size + 1) :=
   .single (.inr ⟨.spawn (child := k) (by rw [act?_of gx, hx.2]) (by rw [act?_of gy, hy.2]) (by simp only [Trace.g?, gy, Option.map_some, hy.1]),
     ⟨p, by simp only [Trace.g?, gx, Option.map_some, hx.1], dx⟩, ⟨k, by simp only [Trace.g?, gy, Option.map_some, hy.1], dy⟩⟩)
 have n0 : HappensBefore (t ++ #[x, y]) i t.size := h.hb_new (Nat.le_refl _) gx hx.1
 exact ⟨t.size + 1, y, gy, hy.1, .inr (n0.trans n1)⟩
theorem TI.quiet (T : TI Shun t H own rd W B) (hu : ∀ op ∈ u, op.act.touch? = none /\ op.act.low B /\ ∀ a, op.act ≠ .mark (.release a)) : TI Shun (t ++ u) H own rd W B := by
 have old : ∀ j x, touchAt (t ++ u) j = some x -> j < t.size /\ touchAt t j = some x := by
   intro j x hx
   obtain ⟨op, ho, hop⟩ := touch_of hx
   rcases getElem?_append_cases ho with ⟨hlt, _⟩ | ⟨_, hou⟩
   · exact ⟨hlt, by rwa [touchAt_old hlt] at hx⟩
   · rw [(hu op hou).1] at hop; cases hop
 refine ⟨fun said => ?_, fun i h a hi hx j x hj hl => (T.own i h a hi hx j x (old j x hj).2 hl).app u, fun i h a hi hx j x hj hl hw => (T.rd i h a hi hx j x (old j x hj).2 hl hw).app u, fun j x a hj hl p hp => ?_, fun j x hj hm => ?_, seen_app T.seen fun op hop => (hu op hop).2.1, fun op hop a ha => ?_⟩
 · rintro ⟨i, j, hij, ⟨a, b, ha, hb, hc⟩, n1, n2⟩
   obtain ⟨hi, ha'⟩ := old i a ha
   obtain ⟨hj, hb'⟩ := old j b hb
   exact T.clean said ⟨i, j, hij, ⟨a, b, ha', hb', hc⟩, fun e => n1 (hb_app u e), fun e => n2 (hb_app u e)⟩
 · rw [g?_old (old j x hj).1]; exact T.wg j x a (old j x hj).2 hl p hp
 · rcases T.all j x (old j x hj).2 hm with ⟨k, h, hk, hh⟩ | h
   · exact .inl ⟨k, h, hk, hh.app u⟩
   · exact .inr h
 · rcases Array.mem_append.1 hop with h | h
   · exact T.norel op h a ha
   · exact (hu op h).2.2 a
theorem TI.spawn (T : TI Shun t H own rd W B) {p c : Nat} {x y : MemOp} (hp : H p = some (.live p)) (hc : H c = none) (hx : x.g = p /\ x.act = .go c) (hy : y.g = c /\ y.act = .start) (hdp : Deaf t p = 0) (hdc : Deaf t c = 0)
   (hH : ∀ i, i ≠ c -> H' i = H i) (hHc : H' c = some (.live c))
   (ho : ∀ i a, own' i a -> (i = c /\ own p a) ∨ (i ≠ c /\ own i a)) (hr : ∀ i a, rd' i a -> (i = c /\ (own p a ∨ rd p a)) ∨ (i ≠ c /\ (own i a ∨ rd i a))) : TI Shun (t ++ #[x, y]) H' own' rd' W B := by
 have Q := T.quiet (u := #[x, y]) (fun op hop => by
   simp only [List.mem_toArray, List.mem_cons, List.not_mem_nil, or_false] at hop
   rcases hop with rfl | rfl
   · rw [hx.2]; exact ⟨rfl, trivial, fun a e => by cases e⟩
   · rw [hy.2]; exact ⟨rfl, trivial, fun a e => by cases e⟩)
 -- what p knew then the child knows
 have key : ∀ j a b, touchAt t j = some b -> key b.loc = some a -> Knows t p j -> Knows (t ++ #[x, y]) c j := fun j a b _ _ k => fork_knows' hx hy hdp hdc k
 have lt : ∀ j b, touchAt (t ++ #[x, y]) j = some b -> touchAt t j = some b := by
   intro j b hb
   obtain ⟨op, ho', hop⟩ := touch_of hb
   rcases getElem?_append_cases ho' with ⟨hlt, _⟩ | ⟨_, hou⟩
   · rwa [touchAt_old hlt] at hb
   · simp only [List.mem_toArray, List.mem_cons, List.not_mem_nil, or_false] at hou
     rcases hou with rfl | rfl
     · rw [hx.2] at hop; cases hop
     · rw [hy.2] at hop; cases hop
 refine ⟨Q.clean, fun i h a hi hxo j b hj hl => ?_, fun i h a hi hxo j b hj hl hw => ?_, Q.wg, fun j b hj hm => ?_, Q.seen, Q.norel⟩
 · rcases ho i a hxo with ⟨rfl, hop⟩ | ⟨hic, hoi⟩
   · rw [hHc] at hi; cases hi
     exact key j a b (lt j b hj) hl (T.own p _ a hp hop j b (lt j b hj) hl)
   · rw [hH i hic] at hi
     exact Q.own i h a hi hoi j b hj hl
 · rcases hr i a hxo with ⟨rfl, hop⟩ | ⟨hic, hoi⟩
   · rw [hHc] at hi; cases hi
     exact key j a b (lt j b hj) hl (hop.elim (fun o => T.own p _ a hp o j b (lt j b hj) hl) (fun o => T.rd p _ a hp o j b (lt j b hj) hl hw))
   · rw [hH i hic] at hi
     exact hoi.elim (fun o => Q.own i h a hi o j b hj hl) (fun o => Q.rd i h a hi o j b hj hl hw)
 · rcases Q.all j b hj hm with ⟨i, h, hi, hh⟩ | h
   · have hic : i ≠ c := by rintro rfl; rw [hc] at hi; cases hi
     exact .inl ⟨i, h, by rw [hH i hic]; exact hi, hh⟩
   · exact .inr h
theorem TI.release (T : TI Shun t H own rd W B) {i : Nat} {y : MemOp} {z : Addr} (hi : H i = some (.live i)) (hy : y.g = i /\ y.act = .mark (.releaseMerge z)) (hz : z.block < B)
   (hH : ∀ j, j ≠ i -> H' j = H j) (hHi : H' i = some (.past t.size)) : TI Shun (t ++ #[y]) H' own rd W B := by
 have Q := T.quiet (u := #[y]) (fun op hop => by
   simp only [List.mem_toArray, List.mem_cons, List.not_mem_nil, or_false] at hop
   subst hop
   rw [hy.2]; exact ⟨rfl, hz, fun a e => by cases e⟩)
 have gy : (t ++ #[y])[t.size]? = some y := by simp
 have key : ∀ j, j < t.size -> Knows (t ++ #[y]) i j -> Before (t ++ #[y]) j t.size := by
   rintro j hj ⟨q, z, hq, hzg, hb⟩
   rcases Nat.lt_or_ge q t.size with hlt | hge
   · exact .inr (hb.hb (hb_po hlt hq gy (hzg.trans hy.1.symm)))
   · have hqs : q = t.size := by
       have := lt_size_of_getElem? hq
       simp at this; omega
     rw [hqs] at hb; exact hb
 have ltT : ∀ j b, touchAt (t ++ #[y]) j = some b -> j < t.size := by
   intro j b hb
   obtain ⟨op, ho', hop⟩ := touch_of hb
   rcases getElem?_append_cases ho' with ⟨hlt, _⟩ | ⟨_, hou⟩
   · exact hlt
   · simp only [List.mem_toArray, List.mem_cons, List.not_mem_nil, or_false] at hou
     subst hou
     rw [hy.2] at hop; cases hop
 refine ⟨Q.clean, fun k h a hk hx j x hj hl => ?_, fun k h a hk hx j x hj hl hw => ?_, Q.wg, fun j x hj hm => ?_, Q.seen, Q.norel⟩
 · by_cases e : k = i
   · subst e; rw [hHi] at hk; cases hk
     exact key j (ltT j x hj) (Q.own k _ a hi hx j x hj hl)
   · rw [hH k e] at hk; exact Q.own k h a hk hx j x hj hl
 · by_cases e : k = i
   · subst e; rw [hHi] at hk; cases hk
     exact key j (ltT j x hj) (Q.rd k _ a hi hx j x hj hl hw)
   · rw [hH k e] at hk; exact Q.rd k h a hk hx j x hj hl hw
 · rcases Q.all j x hj hm with ⟨k, h, hk, hh⟩ | h
   · by_cases e : k = i
     · subst e; rw [hi] at hk; cases hk
       exact .inl ⟨k, _, hHi, key j (ltT j x hj) hh⟩
     · exact .inl ⟨k, h, by rw [hH k e]; exact hk, hh⟩
   · exact .inr h
def Said (t : Trace) (z : Addr) (r : Nat) : Prop := t.act? r = some (.mark (.releaseMerge z)) /\ t.heard r
theorem Said.app {t : Trace} {z : Addr} {r : Nat} (h : Said t z r) (u : Trace) : Said (t ++ u) z r := by
 have hr := lt_of_act? h.1
 exact ⟨by rw [act?_old hr]; exact h.1, (heard_old hr).2 h.2⟩
theorem Said.new {t : Trace} {z : Addr} {y : MemOp} {i : Nat} (hy : y.g = i /\ y.act = .mark (.releaseMerge z)) (hd : Deaf t i = 0) : Said (t ++ #[y]) z t.size := by
 have gy : (t ++ #[y])[t.size]? = some y := by simp
 exact ⟨by rw [act?_of gy, hy.2], i, by simp only [Trace.g?, gy, Option.map_some, hy.1], by rw [deaf_old (Nat.le_refl _)]; exact hd⟩
theorem acquire_knows {t : Trace} {z : Addr} {r p : Nat} {y : MemOp} (h : Said t z r) (hy : y.g = p /\ y.act = .mark (.acquire z)) (hd : Deaf t p = 0) (hn : ∀ op ∈ t, op.act ≠ .mark (.release z)) {j : Nat} (hb : Before t j r) : Knows (t ++ #[y]) p j := by
 have gy : (t ++ #[y])[t.size]? = some y := by simp
 have hr := lt_of_act? h.1
 have n1 : HappensBefore (t ++ #[y]) r t.size :=
   .single (.inr ⟨.marked (a := z) hr (.inr (h.app #[y]).1) (by rw [act?_of gy, hy.2]) (fun k h1 h2 => by
     rw [act?_old h2]
     intro e
     obtain ⟨op, ho, hoa⟩ := Option.map_eq_some_iff.1 e
     exact hn op (mem_of_getElem? ho) hoa), (h.app #[y]).2, ⟨p, by simp only [Trace.g?, gy, Option.map_some, hy.1], by rw [deaf_old (Nat.le_refl _)]; exact hd⟩⟩)
 exact ⟨t.size, y, gy, hy.1, .inr ((hb.app #[y]).hb n1)⟩
theorem TI.acquire (T : TI Shun t H own rd W B) {p : Nat} {y : MemOp} {z : Addr} (K : Nat -> Prop) (hp : H p = some (.live p)) (hpK : ¬ K p) (hy : y.g = p /\ y.act = .mark (.acquire z)) (hd : Deaf t p = 0) (hz : z.block < B) (hW : (W z.block).isSome = true)
   (hK : ∀ k, K k -> ∃ r, H k = some (.past r) /\ Said t z r)
   (hH : ∀ k, ¬ K k -> H' k = H k) (hHK : ∀ k, K k -> H' k = none)
   (ho : ∀ i a, own' i a -> own i a ∨ (i = p /\ ∃ k, K k /\ own k a)) (hr : ∀ i a, rd' i a -> rd i a ∨ own i a ∨ (i = p /\ ∃ k, K k /\ (own k a ∨ rd k a))) : TI Shun (t ++ #[y]) H' own' rd' W B := by
 have Q := T.quiet (u := #[y]) (fun op hop => by
   simp only [List.mem_toArray, List.mem_cons, List.not_mem_nil, or_false] at hop
   subst hop
   rw [hy.2]; exact ⟨rfl, hz, fun a e => by cases e⟩)
 have lt : ∀ j b, touchAt (t ++ #[y]) j = some b -> touchAt t j = some b := by
   intro j b hb
   obtain ⟨op, ho', hop⟩ := touch_of hb
   rcases getElem?_append_cases ho' with ⟨hlt, _⟩ | ⟨_, hou⟩
   · rwa [touchAt_old hlt] at hb
   · simp only [List.mem_toArray, List.mem_cons, List.not_mem_nil, or_false] at hou
     subst hou
     rw [hy.2] at hop; cases hop
 have key : ∀ k r j, H k = some (.past r) -> K k -> Before t j r -> Knows (t ++ #[y]) p j := by
   intro k r j hk hKk hb
   obtain ⟨r', hr', hs⟩ := hK k hKk
   rw [hk] at hr'; cases hr'
   exact acquire_knows hs hy hd (fun op hop => T.norel op hop z hW) hb
 have hp' : H' p = some (.live p) := by rw [hH p hpK]; exact hp
 refine ⟨Q.clean, fun i h a hi hx j x hj hl => ?_, fun i h a hi hx j x hj hl hw => ?_, Q.wg, fun j x hj hm => ?_, Q.seen, Q.norel⟩
 · have hiK : ¬ K i := fun e => by rw [hHK i e] at hi; cases hi
   rw [hH i hiK] at hi
   rcases ho i a hx with h1 | ⟨rfl, k, hk, hok⟩
   · exact Q.own i h a hi h1 j x hj hl
   · rw [hp] at hi; cases hi
     obtain ⟨r, hr', _⟩ := hK k hk
     exact key k r j hr' hk (T.own k _ a hr' hok j x (lt j x hj) hl)
 · have hiK : ¬ K i := fun e => by rw [hHK i e] at hi; cases hi
   rw [hH i hiK] at hi
   rcases hr i a hx with h1 | h1 | ⟨rfl, k, hk, hok⟩
   · exact Q.rd i h a hi h1 j x hj hl hw
   · exact Q.own i h a hi h1 j x hj hl
   · rw [hp] at hi; cases hi
     obtain ⟨r, hr', _⟩ := hK k hk
     exact key k r j hr' hk (hok.elim (fun o => T.own k _ a hr' o j x (lt j x hj) hl) (fun o => T.rd k _ a hr' o j x (lt j x hj) hl hw))
 · rcases T.all j x (lt j x hj) hm with ⟨k, h, hk, hh⟩ | h
   · by_cases e : K k
     · obtain ⟨r, hr', _⟩ := hK k e
       rw [hk] at hr'; cases hr'
       exact .inl ⟨p, _, hp', key k r j hk e hh⟩
     · exact .inl ⟨k, h, by rw [hH k e]; exact hk, hh.app #[y]⟩
   · exact .inr h
theorem TI.group (T : TI Shun t H own rd W B) {z : Nat} (hno : ∀ j x a, touchAt t j = some x -> key x.loc = some a -> a.block ≠ z) (hrel : ∀ op ∈ t, ∀ a, a.block = z -> op.act ≠ .mark (.release a)) (hW : ∀ b, b ≠ z -> W' b = W b) : TI Shun t H own rd W' B := by
 refine ⟨T.clean, T.own, T.rd, fun j x a hj hl q hq => ?_, fun j x hj hm => ?_, T.seen, fun op hop a ha => ?_⟩
 · rw [hW _ (hno j x a hj hl)] at hq
   exact T.wg j x a hj hl q hq
 · rcases T.all j x hj hm with h | ⟨h1, h2⟩
   · exact .inl h
   · refine .inr ⟨h1, h2.imp id ?_⟩
     rintro ⟨a, hl, ha⟩
     exact ⟨a, hl, by rw [hW _ (hno j x a hj hl)]; exact ha⟩
 · by_cases e : a.block = z
   · exact hrel op hop a e
   · rw [hW _ e] at ha
     exact T.norel op hop a ha
theorem TI.first (P0 : Past Shun B t) (o r : Addr -> Prop) (ho : ∀ a l, o a ∨ r a -> key l = some a -> ¬ Shun l) : TI Shun t (fun i => if i = 0 then some (.live 0) else none) (fun i a => i = 0 /\ o a) (fun i a => i = 0 /\ r a) (fun _ => none) B := by
 have kn : ∀ j x a, touchAt t j = some x -> key x.loc = some a -> (o a ∨ r a) -> Knows t 0 j := fun j x a hj hl h => by
   rcases P0.known j x hj (key_mem hl) with k | ⟨k, _⟩
   · exact k
   · exact absurd k (ho a _ h hl)
 refine ⟨P0.clean, fun i h a hi hx j x hj hl => ?_, fun i h a hi hx j x hj hl hw => ?_, fun j x a hj hl p hp => (by cases hp), fun j x hj hm => ?_, P0.seen, fun op hop a ha => (by cases ha)⟩
 · obtain ⟨rfl, hs⟩ := hx
   simp only [if_true, Option.some.injEq] at hi
   subst hi
   exact kn j x a hj hl (.inl hs)
 · obtain ⟨rfl, hs⟩ := hx
   simp only [if_true, Option.some.injEq] at hi
   subst hi
   exact kn j x a hj hl (.inr hs)
 · rcases P0.known j x hj hm with k | ⟨k, ka⟩
   · exact .inl ⟨0, .live 0, by simp, k⟩
   · exact .inr ⟨ka, .inl k⟩
theorem TI.upgrade (T : TI Shun t H own rd W B) (h0 : H 0 = some (.live 0)) (hH : ∀ i, i ≠ 0 -> H i = none) (h0o : ∀ a l, own' 0 a -> key l = some a -> W a.block = none /\ ¬ Shun l) : TI Shun t H own' rd W B := by
 refine ⟨T.clean, fun i h a hi hx j x hj hl => ?_, T.rd, T.wg, T.all, T.seen, T.norel⟩
 by_cases e : i = 0
 · subst e
   rw [h0] at hi; cases hi
   obtain ⟨hW, hS⟩ := h0o a x.loc hx hl
   rcases T.all j x hj (key_mem hl) with ⟨k, h, hk, hh⟩ | ⟨_, h | ⟨b, hb, hbW⟩⟩
   · by_cases e2 : k = 0
     · subst e2; rw [h0] at hk; cases hk; exact hh
     · rw [hH k e2] at hk; cases hk
   · exact absurd h hS
   · rw [hl] at hb; cases hb; rw [hW] at hbW; cases hbW
 · rw [hH i e] at hi; cases hi
def Dull (t : Trace) : Prop := ∀ j g, t.g? j = some g -> g ≠ 0 -> ∀ x, touchAt t j = some x -> x.loc.isMemory = true -> x.kind = .atomic -> ¬ t.heard j ∨ Knows t 0 j
theorem Dull.app {t u : Trace} (h : Dull t) (hu : ∀ j g x, t.size <= j -> (t ++ u).g? j = some g -> g ≠ 0 -> touchAt (t ++ u) j = some x -> x.kind = .atomic -> ¬ (t ++ u).heard j) : Dull (t ++ u) := by
 intro j g hg hne x hx hm hk
 rcases Nat.lt_or_ge j t.size with hj | hj
 · rw [g?_old hj] at hg
   rw [touchAt_old hj] at hx
   exact (h j g hg hne x hx hm hk).imp (fun n e => n ((heard_old hj).1 e)) (·.app u)
 · exact .inl (hu j g x hj hg hne hx hk)
theorem Dull.mine {t : Trace} (h : Dull t) {i : Nat} (fn : FuncId) (pos : String) {es : Array Event}
   (hes : i = 0 ∨ ∀ j e x, es[j]? = some e -> (MemAct.ofEvent e).touch? = some x -> x.kind = .atomic -> 0 < deafBehind (Deaf t i) (es.extract 0 j)) : Dull (t ++ MemOp.ofEvents i fn pos es) := by
 refine h.app fun j g x hj hg hne hx hk hh => ?_
 obtain ⟨op, ho, hop⟩ := touch_of hx
 have hg' : op.g = g := by simpa [Trace.g?, ho] using hg
 have hje : (MemOp.ofEvents i fn pos es)[j - t.size]? = some op := by
   rw [Array.getElem?_append] at ho
   simpa [Nat.not_lt.2 hj] using ho
 rw [ofEvents_eq, Array.getElem?_map] at hje
 obtain ⟨e, he, rfl⟩ := Option.map_eq_some_iff.1 hje
 simp only at hg' hop
 rcases hes with h0 | hes
 · exact hne (hg'.symm.trans h0)
 · have hd := hes _ e x he hop hk
   have hjs : j - t.size <= es.size := by
     rcases Nat.lt_or_ge (j - t.size) es.size with h' | h'
     · omega
     · rw [Array.getElem?_eq_none h'] at he; cases he
   obtain ⟨g2, hg2, hd2⟩ := hh
   rw [hg] at hg2; cases hg2
   subst hg'
   have := deaf_inside t i fn pos es (j - t.size) hjs
   rw [show t.size + (j - t.size) = j by omega, hd2] at this
   omega
theorem Dull.quiet {t u : Trace} (h : Dull t) (hu : ∀ op ∈ u, op.act.touch? = none) : Dull (t ++ u) := by
 refine h.app fun j g x hj hg hne hx hk hh => ?_
 obtain ⟨op, ho, hop⟩ := touch_of hx
 rcases getElem?_append_cases ho with ⟨hlt, _⟩ | ⟨_, hou⟩
 · omega
 · rw [hu op hou] at hop; cases hop
theorem Dull.first {Shun : Loc -> Prop} {B : Nat} {t : Trace} (P0 : Past Shun B t) : Dull t := by
 intro j g hg hne x hx hm _
 by_cases hh : t.heard j
 · refine .inr ?_
   obtain ⟨q, hq, hb⟩ := P0.over j g hg hne ⟨x, hx, hm, .inr hh⟩
   obtain ⟨y, hy, hyg⟩ := Option.map_eq_some_iff.1 hq
   exact ⟨q, y, hy, hyg, .inr hb⟩
 · exact .inl hh
theorem TI.last (T : TI Shun t H own rd W B) (h0 : H 0 = some (.live 0)) (hH : ∀ i, i ≠ 0 -> H i = none) (hd : Deaf t 0 = 0)
   (hq : Dull t) :
   Past (fun l => Shun l ∨ InW W l) B t := by
 have kn : ∀ j x, touchAt t j = some x -> x.loc.isMemory = true -> Knows t 0 j ∨ (x.kind = .atomic /\ (Shun x.loc ∨ InW W x.loc)) := by
   intro j x hj hm
   rcases T.all j x hj hm with ⟨i, h, hi, hh⟩ | h
   · by_cases e : i = 0
     · subst e; rw [h0] at hi; cases hi; exact .inl hh
     · rw [hH i e] at hi; cases hi
   · exact .inr h
 refine ⟨T.clean, fun j x hj hm => (kn j x hj hm).imp id fun h => ⟨h.2, h.1⟩, fun j g hg hne hc => ?_, hd, T.seen⟩
 obtain ⟨x, hx, hm, hk⟩ := hc
 have : Knows t 0 j := by
   rcases kn j x hx hm with h | ⟨h, _⟩
   · exact h
   · rcases hk with hk | hk
     · exact absurd h hk
     · exact (hq j g hg hne x hx hm h).resolve_left (fun n => n hk)
 obtain ⟨q, y, hy, hyg, hb⟩ := this
 rcases hb with rfl | hb
 · have : t.g? j = some 0 := by simp [Trace.g?, hy, hyg]
   rw [this] at hg; cases hg; exact absurd rfl hne
 · exact ⟨q, by simp [Trace.g?, hy, hyg], hb⟩
end
end Go.Nest
namespace Go.Nest
open Go Go.Conc
open Go.ConcR (KK WgAt wgBlock stA smA wr mk)
open Go.ConcN (WgLive)
def frost (w : World) (b : Nat) : Nat × Nat :=
 match w.heap[b]? with
 | some (.cells _ _ f) => f
 | _ => (0, 0)
structure Same (a : Addr) (w w' : World) : Prop where
 cell : w'.cell? a = w.cell? a
 frozen : w'.frozen? a = w.frozen? a
 shape : w'.shape? a.block = w.shape? a.block
 obj : w.shape? a.block = none -> w'.heap[a.block]? = w.heap[a.block]?
 pair : frost w' a.block = frost w a.block
theorem Same.refl (a : Addr) (w : World) : Same a w w := ⟨rfl, rfl, rfl, fun _ => rfl, rfl⟩
theorem Same.trans {a : Addr} {w w' w'' : World} (h : Same a w w') (h' : Same a w' w'') : Same a w w'' :=
 ⟨h'.cell.trans h.cell, h'.frozen.trans h.frozen, h'.shape.trans h.shape, fun e => (h'.obj (h.shape.trans e)).trans (h.obj e), h'.pair.trans h.pair⟩
abbrev Perm := Addr -> Prop
structure Vow where
 ok : Perm -> Perm -> World -> Prop
 keep : ∀ {own rd : Perm} {w w' : World}, (∀ a, own a ∨ rd a -> Same a w w') -> w.heap.size <= w'.heap.size -> ok own rd w -> ok own rd w'
inductive Stg where
 | work | cas (vs : Nat) | reg | awake | rel | last4 | last3 | last2
def Stg.early : Stg -> Bool
 | .work | .cas _ | .reg | .awake => true
 | _ => false
structure Cfg where
 main : Bool
 own : Perm
 rd : Perm
 deaf : Nat
 cur : Option Nat
 pend : Bool
 ub : Nat
 kids : List Vow
 up : Option (Nat × Vow)
section
variable (ty : TypeId)
structure Rely (c : Cfg) (w w₁ : World) : Prop where
 size : w.heap.size <= w₁.heap.size
 same : ∀ a, c.own a ∨ c.rd a -> Same a w w₁
 shape : ∀ b s, w.shape? b = some s -> w₁.shape? b = some s
 cur : ∀ z, c.cur = some z -> WgLive ty z w -> WgLive ty z w₁
 up : ∀ z v, c.up = some (z, v) -> WgLive ty z w -> WgLive ty z w₁
 os : w₁.os = w.os
 tape : w₁.tape = w.tape
 output : w₁.output = w.output
theorem Rely.refl (c : Cfg) (w : World) : Rely ty c w w := ⟨Nat.le_refl _, fun a _ => .refl a w, fun _ _ h => h, fun _ _ h => h, fun _ _ _ h => h, rfl, rfl, rfl⟩
theorem Rely.trans {c : Cfg} {w w₁ w₂ : World} (h : Rely ty c w w₁) (h' : Rely ty c w₁ w₂) : Rely ty c w w₂ :=
 ⟨Nat.le_trans h.size h'.size, fun a ha => (h.same a ha).trans (h'.same a ha), fun b s x => h'.shape b s (h.shape b s x), fun z e x => h'.cur z e (h.cur z e x), fun z v e x => h'.up z v e (h.up z v e x),
   h'.os.trans h.os, h'.tape.trans h.tape, h'.output.trans h.output⟩
theorem Rely.at (c : Cfg) (w : World) (d : Nat) : Rely ty c w (w.at d) := ⟨Nat.le_refl _, fun _ _ => ⟨rfl, rfl, rfl, fun _ => rfl, rfl⟩, fun _ _ h => h, fun _ _ h => h, fun _ _ _ h => h, rfl, rfl, rfl⟩
def OkE (c c' : Cfg) (w w' : World) (e : Event) : Prop :=
 (∀ x, (MemAct.ofEvent e).touch? = some x -> ∃ a, key x.loc = some a /\ a.block < w'.heap.size /\
   ((x.kind = .plain /\ (c.own a ∨ (c.rd a /\ x.write = false) ∨ (w.heap.size <= a.block /\ c'.cur ≠ some a.block))) ∨
    (x.kind = .atomic /\ (c.cur = some a.block ∨ ∃ v, c.up = some (a.block, v))) ∨
    (x.kind = .said /\ c.cur = some a.block))) /\
 (MemAct.ofEvent e).low w'.heap.size /\ (∀ a, e.loc ≠ .mark (.release a))
structure Ord (c c' : Cfg) (w w' : World) (es : Array Event) : Prop where
 size : w.heap.size <= w'.heap.size
 out : ∀ b, b < w.heap.size -> (∀ o, ¬ c.own ⟨b, o, none⟩) -> w'.heap[b]? = w.heap[b]?
 cell : ∀ a, a.block < w.heap.size -> ¬ c.own a -> Same a w w'
 shape : ∀ b s, w.shape? b = some s -> w'.shape? b = some s
 os : w'.os = w.os
 tape : w'.tape = w.tape
 output : w'.output = w.output
 evs : ∀ e ∈ es, OkE c c' w w' e
 dull : ∀ j e x, es[j]? = some e -> (MemAct.ofEvent e).touch? = some x -> x.kind = .atomic -> 0 < deafBehind c.deaf (es.extract 0 j)
 main : c'.main = c.main
 deaf : c'.deaf = deafBehind c.deaf es
 own : ∀ a, c'.own a -> (c.own a ∨ w.heap.size <= a.block ∨ (c.main = true /\ c.cur = none /\ c.rd a)) /\ a.block < w'.heap.size
 rd : ∀ a, c'.rd a -> (c.rd a ∨ c.own a ∨ w.heap.size <= a.block) /\ a.block < w'.heap.size
 pend : c'.pend = c.pend
 ub : c'.ub = c.ub
 kids : c'.kids = c.kids
 up : c'.up = c.up
 cur : c'.cur = c.cur ∨ (c.cur = none /\ ∃ z, c'.cur = some z /\ w.heap.size <= z /\ z < w'.heap.size /\ WgAt ty z w' 0 0 /\ c.pend = false /\ c.kids = [] /\ ∀ a, c'.own a ∨ c'.rd a -> a.block ≠ z)
inductive Tree : Type 1 where
 | node (ι : Type) (f : ι -> Tree)
variable (P : Program) (Fin : Perm -> Perm -> Goroutine -> World -> Prop)
def anyOf (l : List (Perm × Perm)) (pick : Perm × Perm -> Perm) : Perm := fun a => ∃ x ∈ l, pick x a
def Script : Tree -> Stg -> Cfg -> Goroutine -> World -> Prop
 | .node _ f, s, c, g, w => g.status = .running /\ g.offers = none /\ ∀ w₁, Rely ty c w w₁ ->
     -- an ordinary step
     (s.early = true /\ ∃ i, ∃ g' w' es c', stepG P c.main g w₁ = .go g' w' es /\ Ord ty c c' w₁ w' es /\ Script (f i) s c' g' w') ∨
     -- .. of one that has released
     (s.early = false /\ (∃ z v, c.up = some (z, v)) /\ ∃ i, ∃ g' es, stepG P c.main g w₁ = .go g' w₁ es /\ (∀ e ∈ es, e.mute = true) /\ Script (f i) s { c with deaf := deafBehind c.deaf es } g' w₁) ∨
     -- Add(1), its atomic step
     (s = .work /\ c.pend = false /\ 0 < c.deaf /\ ∃ z, c.cur = some z /\ ∀ v : Nat, v < 2147483647 -> WgAt ty z w₁ (v * KK) 0 -> ∃ i, ∃ g', stepG P c.main g w₁ = .go g' (w₁.setCell (stA z) (.int .u64 ((v + 1 : Nat) * KK))) #[ConcR.rd (stA z), wr (stA z)] /\
       Script (f i) .work { c with pend := true } g' (w₁.setCell (stA z) (.int .u64 ((v + 1 : Nat) * KK)))) ∨
     -- a go statement
     (s = .work /\ c.pend = true /\ c.deaf = 0 /\ c.kids.length < 1000 /\ ∃ z, c.cur = some z /\ ∃ i₁ i₂, ∃ (g' child : Goroutine) (o r o' r' : Perm) (v : Vow), stepG P c.main g w₁ = .spawn g' child w₁ #[] /\ child.status = .running /\
       (∀ a, o a -> c.own a) /\ (∀ a, o' a -> c.own a /\ ¬ o a /\ ¬ r a) /\ (∀ a, r a -> (c.own a ∨ c.rd a) /\ ¬ o' a) /\ (∀ a, r' a -> (c.own a ∨ c.rd a) /\ ¬ o a) /\
       Script (f i₁) .work { main := false, own := o, rd := r, deaf := 0, cur := none, pend := false, ub := 0, kids := [], up := some (z, v) } child w₁ /\
       Script (f i₂) .work { c with own := o', rd := r', pend := false, ub := c.ub + 1, kids := v :: c.kids } g' w₁) ∨
     -- Wait: the state is read
     (s = .work /\ c.pend = false /\ 0 < c.deaf /\ ∃ z, c.cur = some z /\ ∀ v : Nat, v <= c.ub -> WgAt ty z w₁ (v * KK) 0 -> ∃ i, ∃ g', stepG P c.main g w₁ = .go g' w₁ #[ConcR.rd (stA z)] /\ Script (f i) (if v = 0 then .awake else .cas v) { c with ub := v } g' w₁) ∨
     -- Wait: it is registered, or not
     (∃ vs, s = .cas vs /\ 0 < c.deaf /\ ∃ z, c.cur = some z /\ ∀ v : Nat, v <= vs -> WgAt ty z w₁ (v * KK) 0 ->
       (v = vs -> ∃ i, ∃ g', stepG P c.main g w₁ = .go g' (w₁.setCell (stA z) (.int .u64 (v * KK + 1))) #[ConcR.rd (stA z), wr (stA z)] /\ Script (f i) .reg c g' (w₁.setCell (stA z) (.int .u64 (v * KK + 1)))) /\
       (v ≠ vs -> ∃ i, ∃ g', stepG P c.main g w₁ = .go g' w₁ #[ConcR.rd (stA z)] /\ Script (f i) .work { c with ub := vs - 1 } g' w₁)) ∨
     -- Wait: it sleeps, or is through
     (s = .reg /\ ∃ z, c.cur = some z /\ ((∃ st, WgAt ty z w₁ st 0) -> stepG P c.main g w₁ = .go { g with status := .blocked } w₁ #[]) /\
       (WgAt ty z w₁ 0 1 -> ∃ i, ∃ g', stepG P c.main g w₁ = .go g' (w₁.setCell (smA z) (.int .u32 0)) (semEvents (smA z)) /\ Script (f i) .awake c g' (w₁.setCell (smA z) (.int .u32 0)))) ∨
     -- Wait: behind the sleep the state is read once more
     (s = .awake /\ 0 < c.deaf /\ ∃ z, c.cur = some z /\ (WgAt ty z w₁ 0 0 -> ∃ i, ∃ g', stepG P c.main g w₁ = .go g' w₁ #[ConcR.rd (stA z)] /\ Script (f i) .awake c g' w₁)) ∨
     -- Wait: acquired
     (s = .awake /\ c.deaf = 0 /\ ∃ z, c.cur = some z /\ ∃ g', stepG P c.main g w₁ = .go g' w₁ #[mk (.acquire (stA z))] /\
       ∀ l : List (Perm × Perm), l.length = c.kids.length -> (∀ x ∈ l.zip c.kids, x.2.ok x.1.1 x.1.2 w₁) -> ∃ i, Script (f i) .work { c with own := fun a => c.own a ∨ anyOf l (·.1) a, rd := fun a => c.rd a ∨ anyOf l (·.2) a, cur := none, ub := 0, kids := [] } g' w₁) ∨
     -- a child says what it has done
     (s = .work /\ c.cur = none /\ c.deaf = 0 /\ ∃ z v, c.up = some (z, v) /\ v.ok c.own c.rd w₁ /\ ∃ i, ∃ g', stepG P c.main g w₁ = .go g' w₁ #[mk (.releaseMerge (stA z))] /\
       Script (f i) .rel { c with own := fun _ => False, rd := fun _ => False } g' w₁) ∨
     -- Done, its atomic step
     (s = .rel /\ 0 < c.deaf /\ ∃ z v, c.up = some (z, v) /\ ∀ v wt : Nat, wt <= 1 -> v < 2147483647 -> WgAt ty z w₁ ((v + 1 : Nat) * KK + wt) 0 ->
       ∃ g', stepG P c.main g w₁ = .go g' (w₁.setCell (stA z) (.int .u64 (v * KK + wt))) #[ConcR.rd (stA z), wr (stA z)] /\
         ((v = 0 /\ wt = 1) -> ∃ i, Script (f i) .last4 c g' (w₁.setCell (stA z) (.int .u64 (v * KK + wt)))) /\ (¬ (v = 0 /\ wt = 1) -> ∃ q, QuitsD P q c.deaf g')) ∨
     (s = .last4 /\ 0 < c.deaf /\ ∃ z v, c.up = some (z, v) /\ (WgAt ty z w₁ 1 0 -> ∃ i, ∃ g', stepG P c.main g w₁ = .go g' w₁ #[ConcR.rd (stA z)] /\ Script (f i) .last3 c g' w₁)) ∨
     (s = .last3 /\ 0 < c.deaf /\ ∃ z v, c.up = some (z, v) /\ (WgAt ty z w₁ 1 0 -> ∃ i, ∃ g', stepG P c.main g w₁ = .go g' (w₁.setCell (stA z) (.int .u64 0)) #[wr (stA z)] /\ Script (f i) .last2 c g' (w₁.setCell (stA z) (.int .u64 0)))) ∨
     (s = .last2 /\ mayWake P g = true /\ ∃ z v, c.up = some (z, v) /\ (WgAt ty z w₁ 0 0 -> ∃ g', stepG P c.main g w₁ = .go g' (w₁.setCell (smA z) (.int .u32 1)) (semEvents (smA z)) /\ g'.status = .running /\ ∃ q, QuitsD P q c.deaf g')) ∨
     -- where the first goroutine is wanted
     (s = .work /\ c.main = true /\ c.cur = none /\ c.deaf = 0 /\ Fin c.own c.rd g w₁)
variable {ty P Fin}
theorem Script.rely {n : Tree} {s : Stg} {c : Cfg} {g : Goroutine} {w w₁ : World} (h : Script ty P Fin n s c g w) (hr : Rely ty c w w₁) : Script ty P Fin n s c g w₁ := by
 cases n with
 | node ι f => exact ⟨h.1, h.2.1, fun w₂ h₂ => h.2.2 w₂ (hr.trans ty h₂)⟩
theorem Script.running {n : Tree} {s : Stg} {c : Cfg} {g : Goroutine} {w : World} (h : Script ty P Fin n s c g w) : g.status = .running /\ g.offers = none := by
 cases n with
 | node ι f => exact ⟨h.1, h.2.1⟩
end
inductive Role where
 | act (n : Tree) (s : Stg) (c : Cfg)
 | blk (n : Tree) (c : Cfg)
 | quit (q : Nat)
inductive KS where
 | early (up : Option (Nat × Vow))
 | rel (up : Option (Nat × Vow))
 | last (j : Nat) (up : Option (Nat × Vow))
 | gone
def Role.ks : Role -> KS
 | .act _ .rel c => .rel c.up
 | .act _ .last4 c => .last 4 c.up
 | .act _ .last3 c => .last 3 c.up
 | .act _ .last2 c => .last 2 c.up
 | .act _ _ c => .early c.up
 | .blk _ c => .early c.up
 | .quit _ => .gone
def KS.counted : KS -> Bool
 | .early _ | .rel _ => true
 | _ => false
def Role.cfg? : Role -> Option Cfg
 | .act _ s c => if s.early then some c else none
 | .blk _ c => some c
 | .quit _ => none
def Role.stg? : Role -> Option Stg
 | .act _ s _ => if s.early then some s else none
 | .blk _ _ => some .reg
 | .quit _ => none
def Role.isBlk : Role -> Bool
 | .blk _ _ => true
 | _ => false
structure Ghost where
 role : Nat -> Role
 H : Nat -> Option Holder
 own : Nat -> Perm
 rd : Nat -> Perm
 W : Nat -> Option Nat
 par : Nat -> Nat
 kids : Nat -> List Nat
inductive All2 {α β : Type} (R : α -> β -> Prop) : List α -> List β -> Prop
 | nil : All2 R [] []
 | cons {a : α} {b : β} {l : List α} {m : List β} : R a b -> All2 R l m -> All2 R (a :: l) (b :: m)
theorem All2.imp {α β : Type} {R S : α -> β -> Prop} {l : List α} {m : List β} (h : All2 R l m) (hs : ∀ a b, a ∈ l -> R a b -> S a b) : All2 S l m := by
 induction h with
 | nil => exact .nil
 | cons h _ ih => exact .cons (hs _ _ (by simp) h) (ih fun a b ha => hs a b (by simp [ha]))
theorem All2.get {α β : Type} {R : α -> β -> Prop} {l : List α} {m : List β} (h : All2 R l m) {a : α} (ha : a ∈ l) : ∃ b ∈ m, R a b := by
 induction h with
 | nil => cases ha
 | cons h _ ih =>
   rcases List.mem_cons.1 ha with rfl | ha
   · exact ⟨_, by simp, h⟩
   · obtain ⟨b, hb, hr⟩ := ih ha
     exact ⟨b, by simp [hb], hr⟩
theorem All2.length {α β : Type} {R : α -> β -> Prop} {l : List α} {m : List β} (h : All2 R l m) : l.length = m.length := by
 induction h with
 | nil => rfl
 | cons _ _ ih => simp [ih]
section
variable (ty : TypeId) (P : Program) (Fin : Perm -> Perm -> Goroutine -> World -> Prop)
def RelOk (G : Ghost) (t : Trace) (w : World) (z k : Nat) (v : Vow) : Prop :=
 (∃ r, G.H k = some (.past r) /\ Said t (stA z) r) /\ v.ok (G.own k) (G.rd k) w
def KidOk (G : Ghost) (N : Nat) (t : Trace) (w : World) (z i k : Nat) (v : Vow) : Prop :=
 i < k /\ k < N /\ G.par k = i /\
 match (G.role k).ks with
 | .early up => up = some (z, v)
 | .rel up => up = some (z, v) /\ RelOk G t w z k v
 | .last _ up => up = some (z, v) /\ RelOk G t w z k v
 | .gone => RelOk G t w z k v
def Count (G : Ghost) (i : Nat) : Nat := (G.kids i).countP fun k => (G.role k).ks.counted
def OpenK (G : Ghost) (i : Nat) : Prop := ∀ k ∈ G.kids i, (G.role k).ks.counted = true ∨ (G.role k).ks = .gone
def AllGone (G : Ghost) (i : Nat) : Prop := ∀ k ∈ G.kids i, (G.role k).ks = .gone
def Mode (G : Ghost) (w : World) (i z : Nat) (c : Cfg) : Stg -> Prop
 | .work => WgAt ty z w (((Count G i + (if c.pend then 1 else 0) : Nat) : Int) * KK) 0 /\ OpenK G i /\ Count G i <= c.ub
 | .cas vs => c.pend = false /\ WgAt ty z w ((Count G i : Int) * KK) 0 /\ OpenK G i /\ Count G i <= vs /\ 1 <= vs
 | .reg => c.pend = false /\ ((WgAt ty z w ((Count G i : Int) * KK + 1) 0 /\ OpenK G i /\ 1 <= Count G i) ∨
     (∃ L ∈ G.kids i, ∃ j up, (G.role L).ks = .last j up /\ (∀ k ∈ G.kids i, k ≠ L -> (G.role k).ks = .gone) /\ WgAt ty z w (if j = 2 then 0 else 1) 0) ∨
     (AllGone G i /\ WgAt ty z w 0 1 /\ (G.role i).isBlk = false))
 | .awake => c.pend = false /\ AllGone G i /\ WgAt ty z w 0 0
 | _ => False
def GroupOk (G : Ghost) (N : Nat) (t : Trace) (w : World) (i : Nat) : Prop :=
 match (G.role i).cfg?, (G.role i).stg? with
 | some c, some s =>
   match c.cur with
   | some z => G.W z = some i /\ c.kids.length < 1001 /\ All2 (KidOk G N t w z i) (G.kids i) c.kids /\ (G.kids i).Nodup /\ Mode ty G w i z c s
   | none => G.kids i = [] /\ c.kids = [] /\ c.pend = false /\ s = .work
 | _, _ => G.kids i = []
def Loc (G : Ghost) (t : Trace) (w : World) (i : Nat) (g : Goroutine) : Role -> Prop
 | .act n s c => Script ty P Fin n s c g w /\ c.main = (i == 0) /\ Deaf t i = c.deaf /\ (c.up = none ↔ i = 0) /\
     (if s.early then G.H i = some (.live i) /\ G.own i = c.own /\ G.rd i = c.rd else (∃ r, G.H i = some (.past r)) /\ c.cur = none /\ ∀ a, ¬ c.own a /\ ¬ c.rd a)
 | .blk n c => g.status = .blocked /\ g.offers = none /\ Script ty P Fin n .reg c { g with status := .running } w /\ c.main = (i == 0) /\ Deaf t i = c.deaf /\ (c.up = none ↔ i = 0) /\
     G.H i = some (.live i) /\ G.own i = c.own /\ G.rd i = c.rd
 | .quit q => QuitsD P q (Deaf t i) g /\ (∀ j, G.H i ≠ some (.live j)) /\ i ≠ 0
structure Base (Shun : Go.Loc -> Prop) (lo : Nat) (Z : Nat -> Prop) (w₀ : World) (G : Ghost) (w : World) : Prop where
 size : lo <= w.heap.size
 os : w.os = w₀.os
 tape : w.tape = w₀.tape
 output : w.output = w₀.output
 groups : ∀ b p, G.W b = some p -> lo <= b /\ b < w.heap.size
 low : ∀ i a, (G.H i).isSome = true -> G.own i a ∨ G.rd i a -> a.block < w.heap.size /\ G.W a.block = none /\ ¬ Z a.block
 zlow : ∀ b, Z b -> b < lo
 shun : ∀ l, Shun l -> ∃ a, key l = some a /\ Z a.block
structure Inv (Shun : Go.Loc -> Prop) (lo : Nat) (Z : Nat -> Prop) (w₀ : World) (G : Ghost) (gs : Array Goroutine) (w : World) (t : Trace) : Prop where
 base : Base Shun lo Z w₀ G w
 ti : TI Shun t G.H G.own G.rd G.W w.heap.size
 dull : Dull t
 sep : Sep G.H G.own G.rd
 loc : ∀ i, i < gs.size -> ∃ g, gs[i]? = some g /\ Loc ty P Fin G t w i g (G.role i)
 above : ∀ j, gs.size <= j -> Deaf t j = 0 /\ G.H j = none
 first : 0 < gs.size
 group : ∀ i, i < gs.size -> GroupOk ty G gs.size t w i
 bare : ∀ i, gs.size <= i -> G.kids i = []
 child : ∀ k, k ≠ 0 -> G.H k ≠ .none -> k ∈ G.kids (G.par k)
def Role.tree? : Role -> Option Tree
 | .act n _ _ => some n
 | .blk n _ => some n
 | .quit _ => none
def Role.left : Role -> Nat
 | .quit q => q
 | _ => 0
def Role.awakeReg : Role -> Nat
 | .act _ .reg _ => 1
 | _ => 0
end
end Go.Nest
namespace Go.Nest
open Go Go.Conc
open Go.ConcR (KK WgAt wgBlock stA smA wr mk)
open Go.ConcN (WgLive sumTo upd sumTo_upd upd_ne upd_same sumTo_congr)
def wakeRole (wk : Bool) : Role -> Role
 | .blk n c => if wk then .act n .reg c else .blk n c
 | r => r
theorem wakeRole_ks (wk : Bool) (r : Role) : (wakeRole wk r).ks = r.ks := by
 cases r <;> simp only [wakeRole]
 split <;> rfl
theorem wakeRole_cfg (wk : Bool) (r : Role) : (wakeRole wk r).cfg? = r.cfg? := by
 cases r <;> simp only [wakeRole]
 split <;> rfl
theorem wakeRole_stg (wk : Bool) (r : Role) : (wakeRole wk r).stg? = r.stg? := by
 cases r <;> simp only [wakeRole]
 split <;> rfl
theorem wakeRole_blk (wk : Bool) (r : Role) (h : (wakeRole wk r).isBlk = true) : r.isBlk = true := by
 cases r <;> simp only [wakeRole] at h <;> first | exact h | skip
 rfl
theorem wakeRole_tree (wk : Bool) (r : Role) : (wakeRole wk r).tree? = r.tree? := by
 cases r <;> simp only [wakeRole]
 split <;> rfl
theorem wakeRole_left (wk : Bool) (r : Role) : (wakeRole wk r).left = r.left := by
 cases r <;> simp only [wakeRole]
 split <;> rfl
def Cfg.key (c : Cfg) : Option Nat × List Vow × Bool × Nat := (c.cur, c.kids, c.pend, c.ub)
def Role.all? : Role -> Option Cfg
 | .act _ _ c => some c
 | .blk _ c => some c
 | .quit _ => none
section
variable {ty : TypeId} {P : Program} {Fin : Perm -> Perm -> Goroutine -> World -> Prop} {G G' : Ghost} {t u : Trace} {w w' : World} {N N' : Nat}
theorem GroupOk.frame {p : Nat} (h : GroupOk ty G N t w p) (hN : N <= N') (hcfg : (G'.role p).cfg?.map Cfg.key = (G.role p).cfg?.map Cfg.key) (hstg : (G'.role p).stg? = (G.role p).stg?)
   (hblk : (G'.role p).isBlk = true -> (G.role p).isBlk = true) (hkids : G'.kids p = G.kids p)
   (hks : ∀ k ∈ G.kids p, (G'.role k).ks = (G.role k).ks /\ G'.par k = G.par k /\ G'.own k = G.own k /\ G'.rd k = G.rd k /\ G'.H k = G.H k ∨ (G'.role k).ks = (G.role k).ks /\ G'.par k = G.par k /\ ∃ up, (G.role k).ks = .early up)
   (hW : ∀ z, (∃ c, (G.role p).cfg? = some c /\ c.cur = some z) -> G'.W z = G.W z /\ ∀ st sm, WgAt ty z w st sm -> WgAt ty z w' st sm)
   (hsame : ∀ k ∈ G.kids p, (∃ r, G.H k = some (.past r)) -> ∀ a, G.own k a ∨ G.rd k a -> Same a w w') (hsize : w.heap.size <= w'.heap.size) : GroupOk ty G' N' (t ++ u) w' p := by
 unfold GroupOk at h ⊢
 rw [hstg]
 cases hc : (G.role p).cfg? with
 | none =>
   rw [hc] at h hcfg
   have hc' : (G'.role p).cfg? = none := by simpa using hcfg
   rw [hc']; simp only at h ⊢; rw [hkids]; exact h
 | some c =>
   rw [hc] at hcfg
   obtain ⟨c', hc', hkey⟩ := Option.map_eq_some_iff.1 hcfg
   obtain ⟨k1, k2, k3, k4⟩ : c'.cur = c.cur /\ c'.kids = c.kids /\ c'.pend = c.pend /\ c'.ub = c.ub := by simpa [Cfg.key] using hkey
   rw [hc']
   cases hs : (G.role p).stg? with
   | none => rw [hc, hs] at h; simp only at h ⊢; rw [hkids]; exact h
   | some s =>
     rw [hc, hs] at h
     simp only at h ⊢
     rw [k1, k2, k3]
     cases hz : c.cur with
     | none => rw [hz] at h; simp only at h ⊢; rw [hkids]; exact h
     | some z =>
       rw [hz] at h
       simp only at h ⊢
       obtain ⟨h1, h2, h3, h4, h5⟩ := h
       obtain ⟨w1, w2⟩ := hW z ⟨c, hc, hz⟩
       have kk : ∀ k ∈ G.kids p, (G'.role k).ks = (G.role k).ks := fun k hk => (hks k hk).elim (·.1) (·.1)
       have cnt : Count G' p = Count G p := by
         unfold Count
         rw [hkids]
         exact List.countP_congr fun k hk => by rw [kk k hk]
       have h3' : All2 (KidOk G' N' (t ++ u) w' z p) (G.kids p) c.kids := by
         refine h3.imp fun k v hk x => ?_
         obtain ⟨x1, x2, x3, x4⟩ := x
         have rel : RelOk G t w z k v -> G'.own k = G.own k -> G'.rd k = G.rd k -> G'.H k = G.H k -> RelOk G' (t ++ u) w' z k v := by
           rintro ⟨⟨r, hr, hsaid⟩, hv⟩ e1 e2 e3
           refine ⟨⟨r, by rw [e3]; exact hr, hsaid.app u⟩, ?_⟩
           rw [e1, e2]
           exact v.keep (hsame k hk ⟨r, hr⟩) hsize hv
         have e := kk k hk
         rcases hks k hk with ⟨_, y2, y3, y4, y5⟩ | ⟨_, y2, up, y3⟩
         · refine ⟨x1, Nat.lt_of_lt_of_le x2 hN, y2.trans x3, ?_⟩
           rw [e]
           revert x4
           cases (G.role k).ks with
           | early up => exact id
           | rel up => exact fun q => ⟨q.1, rel q.2 y3 y4 y5⟩
           | last j up => exact fun q => ⟨q.1, rel q.2 y3 y4 y5⟩
           | gone => exact fun q => rel q y3 y4 y5
         · refine ⟨x1, Nat.lt_of_lt_of_le x2 hN, y2.trans x3, ?_⟩
           rw [e]
           rw [y3] at x4 ⊢
           exact x4
       refine ⟨w1.trans h1, h2, by rw [hkids]; exact h3', by rw [hkids]; exact h4, ?_⟩
       · have op : OpenK G p -> OpenK G' p := fun o k hk => by rw [hkids] at hk; rw [kk k hk]; exact o k hk
         have ag : AllGone G p -> AllGone G' p := fun o k hk => by rw [hkids] at hk; rw [kk k hk]; exact o k hk
         revert h5
         cases s with
         | work => simp only [Mode]; rw [cnt, k3, k4]; exact fun ⟨a, b, d⟩ => ⟨w2 _ _ a, op b, d⟩
         | cas vs => simp only [Mode]; rw [cnt, k3]; exact fun ⟨a, b, d, e⟩ => ⟨a, w2 _ _ b, op d, e⟩
         | reg =>
           simp only [Mode]; rw [cnt, k3]
           rintro ⟨a, ⟨b, d, e⟩ | ⟨L, hL, j, up, b, d, e⟩ | ⟨b, d, e⟩⟩
           · exact ⟨a, .inl ⟨w2 _ _ b, op d, e⟩⟩
           · exact ⟨a, .inr (.inl ⟨L, by rw [hkids]; exact hL, j, up, by rw [kk L hL]; exact b, fun k hk hne => by rw [hkids] at hk; rw [kk k hk]; exact d k hk hne, w2 _ _ e⟩)⟩
           · refine ⟨a, .inr (.inr ⟨ag b, w2 _ _ d, ?_⟩)⟩
             cases hb : (G'.role p).isBlk with
             | false => rfl
             | true => rw [hblk hb] at e; cases e
         | awake => simp only [Mode]; rw [k3]; exact fun ⟨a, b, d⟩ => ⟨a, ag b, w2 _ _ d⟩
         | rel => exact id
         | last4 => exact id
         | last3 => exact id
         | last2 => exact id
theorem setCell_shape {w : World} {a : Addr} {v : Value} (b : Nat) : (w.setCell a v).shape? b = w.shape? b := by
 simp only [World.shape?, World.setCell, Array.getElem?_modify]
 by_cases e : a.block = b
 · subst e
   rw [if_pos rfl]
   cases w.heap[a.block]? with
   | none => rfl
   | some o => cases o <;> simp <;> split <;> simp
 · rw [if_neg e]
theorem setCell_size (w : World) (a : Addr) (v : Value) : (w.setCell a v).heap.size = w.heap.size := by simp [World.setCell]
theorem setCell_block (w : World) (a : Addr) (v : Value) {b : Nat} (h : b ≠ a.block) : (w.setCell a v).heap[b]? = w.heap[b]? := by
 simp only [World.setCell, Array.getElem?_modify]
 rw [if_neg (Ne.symm h)]
theorem same_of_block {w w' : World} {a : Addr} (h : w'.heap[a.block]? = w.heap[a.block]?) : Same a w w' := by
 refine ⟨?_, ?_, ?_, fun _ => h, ?_⟩ <;> simp only [World.cell?, World.frozen?, World.shape?, frost, h]
theorem wg_rely {c : Cfg} {z : Nat} {a : Addr} {v : Value} (ha : a.block = z) (hl : WgLive ty z (w.setCell a v)) (hc : ∀ x, c.own x ∨ c.rd x -> x.block ≠ z) : Rely ty c w (w.setCell a v) := by
 subst ha
 refine ⟨by rw [setCell_size]; exact Nat.le_refl _, fun x hx => same_of_block (setCell_block w a v (hc x hx)), fun b s h => by rw [setCell_shape]; exact h, fun y _ hy => ?_, fun y _ _ hy => ?_, rfl, rfl, rfl⟩
 all_goals
   by_cases e : y = a.block
   · rw [e]; exact hl
   · obtain ⟨st, sm, h⟩ := hy
     exact ⟨st, sm, h.of_block (setCell_block w a v e)⟩
theorem ord_rely {c c' : Cfg} {es : Array Event} {cj : Cfg} (h : Ord ty c c' w w' es)
   (hsep : ∀ a, c.own a -> ¬ cj.own a /\ ¬ cj.rd a) (hb : ∀ a, cj.own a ∨ cj.rd a -> a.block < w.heap.size)
   (hz : ∀ z, (cj.cur = some z ∨ ∃ v, cj.up = some (z, v)) -> z < w.heap.size /\ ∀ o, ¬ c.own ⟨z, o, none⟩) : Rely ty cj w w' := by
 refine ⟨h.size, fun a ha => h.cell a (hb a ha) fun ho => ha.elim (hsep a ho).1 (hsep a ho).2, h.shape, fun z e => ?_, fun z v e => ?_, h.os, h.tape, h.output⟩
 · rintro ⟨st, sm, hl⟩
   obtain ⟨h1, h2⟩ := hz z (.inl e)
   exact ⟨st, sm, hl.of_block (h.out z h1 h2)⟩
 · rintro ⟨st, sm, hl⟩
   obtain ⟨h1, h2⟩ := hz z (.inr ⟨v, e⟩)
   exact ⟨st, sm, hl.of_block (h.out z h1 h2)⟩
end
section
variable {ty : TypeId} {P : Program} {Fin : Perm -> Perm -> Goroutine -> World -> Prop} {Shun : Go.Loc -> Prop} {lo : Nat} {Z : Nat -> Prop} {w₀ : World} {G G' : Ghost} {gs : Array Goroutine} {t : Trace} {w w' : World}
def wakes (P : Program) (g g' : Goroutine) : Bool := mayWake P g && g'.status != .blocked && g'.status != .waiting
theorem woken_not {g g' x : Goroutine} {w' : World} (h : wakes P g g' = false) : woken P g g' w' x = x := by
 unfold woken
 rw [if_neg (by unfold wakes at h; rw [h]; simp)]
theorem woken_yes {g g' x : Goroutine} {w' : World} (h : wakes P g g' = true) : woken P g g' w' x = x.again w' := by
 unfold woken
 rw [if_pos (by unfold wakes at h; exact h)]
theorem woken_still {g g' x : Goroutine} {w' : World} (h : x.status = .running ∨ x.status = .finished) : woken P g g' w' x = x := by
 unfold woken
 split
 · exact again_running _ h
 · rfl
theorem ofEvents_g {i : Nat} {fn : FuncId} {pos : String} {es : Array Event} : ∀ op ∈ MemOp.ofEvents i fn pos es, op.g = i := ConcR.g_of_ofEvents
theorem Loc.other {i j : Nat} {g g' x : Goroutine} {fn : FuncId} {pos : String} {es : Array Event} (hij : i ≠ j) (h : Loc ty P Fin G t w j x (G.role j))
   (hrely : ∀ c, (G.role j).all? = some c -> Rely ty c w w')
   (hH : (G'.H j = G.H j /\ G'.own j = G.own j /\ G'.rd j = G.rd j) ∨ ((∃ q, G.role j = .quit q) /\ G'.H j = .none)) :
   Loc ty P Fin G' (t ++ MemOp.ofEvents i fn pos es) w' j (woken P g g' w' x) (wakeRole (wakes P g g') (G.role j)) := by
 have hd : Deaf (t ++ MemOp.ofEvents i fn pos es) j = Deaf t j := Deaf_other t hij _ ofEvents_g
 revert h
 cases hr : G.role j with
 | act n s c =>
   rintro ⟨h1, h2, h3, h4, h5⟩
   have hH' := hH.resolve_right (fun ⟨⟨q, hq⟩, _⟩ => by rw [hr] at hq; cases hq)
   rw [woken_still (.inl h1.running.1)]
   refine ⟨h1.rely (hrely c (by rw [hr]; rfl)), h2, hd.trans h3, h4, ?_⟩
   rw [hH'.1, hH'.2.1, hH'.2.2]
   exact h5
 | blk n c =>
   rintro ⟨h1, h2, h3, h4, h5, h6, h7, h8, h9⟩
   have hH' := hH.resolve_right (fun ⟨⟨q, hq⟩, _⟩ => by rw [hr] at hq; cases hq)
   have hs := h3.rely (hrely c (by rw [hr]; rfl))
   cases hw : wakes P g g' with
   | true =>
     rw [woken_yes hw]
     have e : x.again w' = { x with status := .running } := by
       unfold Goroutine.again; rw [h1, h2]
     rw [e]
     refine ⟨hs, h4, hd.trans h5, h6, ?_⟩
     simp only [Stg.early, if_true]
     rw [hH'.1, hH'.2.1, hH'.2.2]
     exact ⟨h7, h8, h9⟩
   | false =>
     rw [woken_not hw]
     refine ⟨h1, h2, hs, h4, hd.trans h5, h6, ?_⟩
     rw [hH'.1, hH'.2.1, hH'.2.2]
     exact ⟨h7, h8, h9⟩
 | quit q =>
   rintro ⟨h1, h2, h3⟩
   rw [woken_still h1.status]
   refine ⟨by rw [hd]; exact h1, fun k => ?_, h3⟩
   rcases hH with ⟨e, _⟩ | ⟨_, e⟩
   · rw [e]; exact h2 k
   · rw [e]; simp
theorem Inv.next (I : Inv ty P Fin Shun lo Z w₀ G gs w t) {i : Nat} {g g' : Goroutine} {es : Array Event} {ρ : Role} (hi : gs[i]? = some g)
   (hrole : ∀ j, G'.role j = if j = i then ρ else wakeRole (wakes P g g') (G.role j))
   (hH : ∀ j, j ≠ i -> (G'.H j = G.H j /\ G'.own j = G.own j /\ G'.rd j = G.rd j) ∨ ((∃ q, G.role j = .quit q) /\ G'.H j = .none))
   (hrely : ∀ j c, j ≠ i -> j < gs.size -> (G.role j).all? = some c -> Rely ty c w w')
   (base : Base Shun lo Z w₀ G' w') (ti : TI Shun (t ++ MemOp.ofEvents i g.frame.fn g.frame.place es) G'.H G'.own G'.rd G'.W w'.heap.size) (dull : Dull (t ++ MemOp.ofEvents i g.frame.fn g.frame.place es)) (sep : Sep G'.H G'.own G'.rd)
   (hloc : Loc ty P Fin G' (t ++ MemOp.ofEvents i g.frame.fn g.frame.place es) w' i g' ρ)
   (hgroup : ∀ p, p < gs.size -> GroupOk ty G' gs.size (t ++ MemOp.ofEvents i g.frame.fn g.frame.place es) w' p)
   (hkids : ∀ p, gs.size <= p -> G'.kids p = []) (hchild : ∀ k, k ≠ 0 -> G'.H k ≠ .none -> k ∈ G'.kids (G'.par k)) :
   Inv ty P Fin Shun lo Z w₀ G' ((gs.map (woken P g g' w')).setIfInBounds i g') w' (t ++ MemOp.ofEvents i g.frame.fn g.frame.place es) := by
 have hlt : i < gs.size := (Array.getElem?_eq_some_iff.1 hi).1
 have hsz : ((gs.map (woken P g g' w')).setIfInBounds i g').size = gs.size := by simp
 refine ⟨base, ti, dull, sep, fun j hj => ?_, fun j hj => ?_, by rw [hsz]; exact I.first, fun p hp => ?_, fun p hp => hkids p (by rw [hsz] at hp; exact hp), hchild⟩
 · rw [hsz] at hj
   by_cases e : j = i
   · subst e
     refine ⟨g', by rw [Array.getElem?_setIfInBounds_self_of_lt (by simpa using hlt)], ?_⟩
     rw [hrole j, if_pos rfl]
     exact hloc
   · obtain ⟨x, hx, hl⟩ := I.loc j hj
     refine ⟨woken P g g' w' x, by rw [Array.getElem?_setIfInBounds_ne (Ne.symm e), Array.getElem?_map, hx]; rfl, ?_⟩
     rw [hrole j, if_neg e]
     exact hl.other (Ne.symm e) (fun c hc => hrely j c e hj hc) (hH j e)
 · rw [hsz] at hj
   obtain ⟨h1, h2⟩ := I.above j hj
   refine ⟨by rw [Deaf_other t (by omega) _ ofEvents_g]; exact h1, ?_⟩
   rcases hH j (by omega) with ⟨e, _⟩ | ⟨_, e⟩
   · rw [e]; exact h2
   · exact e
 · rw [hsz] at hp ⊢
   exact hgroup p hp
def Tree.Lt (x y : Tree) : Prop := ∃ ι f i, y = .node ι f /\ x = f i
theorem Tree.lt_wf : WellFounded Tree.Lt := by
 constructor
 intro y
 induction y with
 | node ι f ih =>
   constructor
   rintro x ⟨ι', f', i, e, rfl⟩
   cases e
   exact ih i
theorem Tree.lt_node {ι : Type} {f : ι -> Tree} (i : ι) : Tree.Lt (f i) (.node ι f) := ⟨ι, f, i, rfl, rfl⟩
def Red (m l : List Tree) : Prop := ∃ x r ys, l.Perm (x :: r) /\ m.Perm (ys ++ r) /\ ∀ y ∈ ys, Tree.Lt y x
theorem red_perm {l l' : List Tree} (h : Acc Red l) (p : l.Perm l') : Acc Red l' :=
 ⟨_, fun _ ⟨x, r, ys, h1, h2, h3⟩ => h.inv ⟨x, r, ys, p.trans h1, h2, h3⟩⟩
theorem mem_perm {x : Tree} {l : List Tree} (h : x ∈ l) : ∃ l', l.Perm (x :: l') := by
 obtain ⟨s, t, rfl⟩ := List.append_of_mem h
 exact ⟨s ++ t, List.perm_middle⟩
theorem red_append : ∀ {l₁ : List Tree}, Acc Red l₁ -> ∀ {l₂ : List Tree}, Acc Red l₂ -> Acc Red (l₁ ++ l₂) := by
 intro l₁ h₁
 induction h₁ with
 | intro l₁ h₁ ih₁ =>
   intro l₂ h₂
   induction h₂ with
   | intro l₂ h₂ ih₂ =>
     constructor
     rintro m ⟨x, r, ys, p1, p2, p3⟩
     have hx : x ∈ l₁ ++ l₂ := p1.mem_iff.2 (by simp)
     rcases List.mem_append.1 hx with hx | hx
     · obtain ⟨a, ha⟩ := mem_perm hx
       have hr : r.Perm (a ++ l₂) := by
         have : (x :: r).Perm (x :: (a ++ l₂)) := p1.symm.trans (ha.append_right l₂)
         exact List.Perm.cons_inv this
       refine red_perm (ih₁ (ys ++ a) ⟨x, a, ys, ha, .refl _, p3⟩ ⟨_, h₂⟩) ?_
       rw [List.append_assoc]
       exact (hr.symm.append_left ys).trans p2.symm
     · obtain ⟨a, ha⟩ := mem_perm hx
       have hr : r.Perm (l₁ ++ a) := by
         have : (x :: r).Perm (x :: (l₁ ++ a)) := p1.symm.trans ((ha.append_left l₁).trans List.perm_middle)
         exact List.Perm.cons_inv this
       refine red_perm (ih₂ (ys ++ a) ⟨x, a, ys, ha, .refl _, p3⟩) ?_
       have : (l₁ ++ (ys ++ a)).Perm (ys ++ (l₁ ++ a)) := by
         rw [<- List.append_assoc, <- List.append_assoc]
         exact List.perm_append_comm.append_right a
       exact this.trans ((hr.symm.append_left ys).trans p2.symm)
theorem red_nil : Acc Red [] := ⟨_, fun _ ⟨x, r, ys, h1, _⟩ => by have := h1.length_eq; simp at this⟩
theorem red_all (ys : List Tree) (h : ∀ y ∈ ys, Acc Red [y]) : Acc Red ys := by
 induction ys with
 | nil => exact red_nil
 | cons y ys ih =>
   have := red_append (h y (by simp)) (ih fun z hz => h z (by simp [hz]))
   simpa using this
theorem red_one (x : Tree) : Acc Red [x] := by
 induction x using Tree.lt_wf.induction with
 | _ x ih =>
   constructor
   rintro m ⟨y, r, ys, h1, h2, h3⟩
   have hr : r = [] := by have := h1.length_eq; cases r with | nil => rfl | cons => simp at this
   subst hr
   have hy : y = x := by
     have : y ∈ [x] := h1.mem_iff.2 (by simp)
     simpa using this
   subst hy
   refine red_perm (red_all ys fun z hz => ih z (h3 z hz)) ?_
   simpa using h2.symm
theorem red_wf : WellFounded Red := ⟨fun l => red_all l fun y _ => red_one y⟩
def MS (G : Ghost) : Nat -> List Tree
 | 0 => []
 | N + 1 => (G.role N).tree?.toList ++ MS G N
def SL (G : Ghost) (N : Nat) : Nat := sumTo N fun j => (G.role j).left
def SA (G : Ghost) (N : Nat) : Nat := sumTo N fun j => (G.role j).awakeReg
abbrev Lt3 : List Tree × Nat × Nat -> List Tree × Nat × Nat -> Prop := Prod.Lex Red (Prod.Lex (· < ·) (· < ·))
def mu (G : Ghost) (N : Nat) : List Tree × Nat × Nat := (MS G N, SL G N, SA G N)
theorem lt3_wf : WellFounded Lt3 := (Prod.lex ⟨Red, red_wf⟩ (Prod.lex Nat.lt_wfRel Nat.lt_wfRel)).wf
theorem MS_congr {N : Nat} (h : ∀ j, j < N -> (G'.role j).tree? = (G.role j).tree?) : MS G' N = MS G N := by
 induction N with
 | zero => rfl
 | succ N ih => rw [MS, MS, h N (by omega), ih fun j hj => h j (by omega)]
theorem MS_split {i N : Nat} (hi : i < N) (h : ∀ j, j ≠ i -> j < N -> (G'.role j).tree? = (G.role j).tree?) : ∃ r, (MS G N).Perm ((G.role i).tree?.toList ++ r) /\ (MS G' N).Perm ((G'.role i).tree?.toList ++ r) := by
 induction N with
 | zero => omega
 | succ N ih =>
   by_cases e : N = i
   · subst e
     exact ⟨MS G N, .refl _, by rw [MS, MS_congr fun j hj => h j (by omega) (by omega)]⟩
   · obtain ⟨r, h1, h2⟩ := ih (by omega) fun j hj hjN => h j hj (by omega)
     refine ⟨(G.role N).tree?.toList ++ r, ?_, ?_⟩
     · rw [MS]
       refine (h1.append_left _).trans ?_
       rw [<- List.append_assoc, <- List.append_assoc]
       exact List.perm_append_comm.append_right r
     · rw [MS, h N e (by omega)]
       refine (h2.append_left _).trans ?_
       rw [<- List.append_assoc, <- List.append_assoc]
       exact List.perm_append_comm.append_right r
theorem sum_role {f : Role -> Nat} {i N : Nat} {ρ : Role} {wk : Bool} (hf : ∀ r, f (wakeRole wk r) = f r) (hrole : ∀ j, G'.role j = if j = i then ρ else wakeRole wk (G.role j)) (hi : i < N) :
   sumTo N (fun j => f (G'.role j)) + f (G.role i) = sumTo N (fun j => f (G.role j)) + f ρ := by
 have e := sumTo_upd (fun j => f (G.role j)) (f ρ) id hi
 simp only [id] at e
 rw [<- e]
 congr 1
 refine sumTo_congr fun a _ => ?_
 rw [hrole a]
 by_cases h : a = i
 · subst h; simp [upd]
 · simp [upd, h, hf]
theorem tree_role {i N : Nat} {ρ : Role} {wk : Bool} (hrole : ∀ j, G'.role j = if j = i then ρ else wakeRole wk (G.role j)) (h : ρ.tree? = (G.role i).tree?) : MS G' N = MS G N :=
 MS_congr fun j _ => by
   rw [hrole j]
   split
   · rename_i e; rw [e]; exact h
   · exact wakeRole_tree _ _
theorem lt_fuel {i N : Nat} {ρ : Role} {wk : Bool} {τ : Tree} (hrole : ∀ j, G'.role j = if j = i then ρ else wakeRole wk (G.role j)) (hi : i < N) (h0 : (G.role i).tree? = some τ) (h : ∀ y, ρ.tree? = some y -> Tree.Lt y τ) : Lt3 (mu G' N) (mu G N) := by
 refine Prod.Lex.left _ _ ?_
 obtain ⟨r, h1, h2⟩ := MS_split (G := G) (G' := G') hi fun j hj _ => by rw [hrole j, if_neg hj, wakeRole_tree]
 rw [h0] at h1
 rw [hrole i, if_pos rfl] at h2
 refine ⟨τ, r, ρ.tree?.toList, h1, h2, fun y hy => h y ?_⟩
 cases hρ : ρ.tree? with
 | none => rw [hρ] at hy; simp at hy
 | some z => rw [hρ] at hy; simp at hy; rw [hy]
theorem lt_left {i N : Nat} {ρ : Role} {wk : Bool} (hrole : ∀ j, G'.role j = if j = i then ρ else wakeRole wk (G.role j)) (hi : i < N) (h : ρ.tree? = (G.role i).tree?) (h' : ρ.left < (G.role i).left) : Lt3 (mu G' N) (mu G N) := by
 have e2 := sum_role (G := G) (G' := G') (f := Role.left) (wakeRole_left wk) hrole hi
 unfold mu
 rw [tree_role hrole h]
 refine Prod.Lex.right _ (Prod.Lex.left _ _ ?_)
 simp only [SL]
 omega
theorem wakeRole_false (r : Role) : wakeRole false r = r := by cases r <;> rfl
theorem lt_reg {i N : Nat} {ρ : Role} (hrole : ∀ j, G'.role j = if j = i then ρ else wakeRole false (G.role j)) (hi : i < N) (h : ρ.tree? = (G.role i).tree?) (h' : ρ.left = (G.role i).left) (h'' : ρ.awakeReg < (G.role i).awakeReg) : Lt3 (mu G' N) (mu G N) := by
 have e2 := sum_role (G := G) (G' := G') (f := Role.left) (wakeRole_left false) hrole hi
 have e3 := sum_role (G := G) (G' := G') (f := Role.awakeReg) (fun r => by rw [wakeRole_false]) hrole hi
 have x2 : SL G' N = SL G N := by simp only [SL]; omega
 unfold mu
 rw [tree_role hrole h, x2]
 refine Prod.Lex.right _ (Prod.Lex.right _ ?_)
 simp only [SA]
 omega
end
section
variable {Shun : Go.Loc -> Prop} {t u : Trace} {H : Nat -> Option Holder} {own rd : Nat -> Perm} {W : Nat -> Option Nat} {B B' : Nat}
theorem TI.bk (T : TI Shun t H own rd W B) (hu : ∀ op ∈ u, op.act.low B /\ (∀ x, op.act.touch? = some x -> ∃ a, key x.loc = some a /\ x.kind = .atomic /\ (W a.block).isSome = true) /\ ∀ a, op.act ≠ .mark (.release a))
   (hfree : ∀ j a, (H j).isSome = true -> own j a ∨ rd j a -> W a.block = none) : TI Shun (t ++ u) H own rd W B := by
 have cases' : ∀ j x, touchAt (t ++ u) j = some x -> (j < t.size /\ touchAt t j = some x) ∨ (∃ a, key x.loc = some a /\ x.kind = .atomic /\ (W a.block).isSome = true) := by
   intro j x hx
   obtain ⟨op, ho, hop⟩ := touch_of hx
   rcases getElem?_append_cases ho with ⟨hlt, _⟩ | ⟨_, hou⟩
   · exact .inl ⟨hlt, by rwa [touchAt_old hlt] at hx⟩
   · exact .inr ((hu op hou).2.1 x hop)
 -- an atomic touch of a group's cell is at odds with nothing
 have calm : ∀ said j x b, touchAt (t ++ u) j = some x -> (∃ a, key b.loc = some a /\ b.kind = .atomic /\ (W a.block).isSome = true) -> ¬ x.conflicts said b /\ ¬ b.conflicts said x := by
   rintro said j x b hx ⟨a, hl, hk, hW⟩
   have hkey : x.loc = b.loc -> x.kind = .atomic ∨ x.kind = .said := by
     intro e
     rcases cases' j x hx with ⟨_, h⟩ | ⟨_, _, h, _⟩
     · obtain ⟨p, hp⟩ := Option.isSome_iff_exists.1 hW
       exact (T.wg j x a h (by rw [e]; exact hl) p hp).imp id (·.1)
     · exact .inl h
   refine ⟨fun c => ?_, fun c => ?_⟩
   · rcases hkey c.1 with h | h <;> rcases c.2.2.2 with y | y | ⟨_, y, z⟩ <;> simp_all
   · rcases hkey c.1.symm with h | h <;> rcases c.2.2.2 with y | y | ⟨_, y, z⟩ <;> simp_all
 refine ⟨?_, fun i h a hi hx j x hj hl => ?_, fun i h a hi hx j x hj hl hw => ?_, fun j x a hj hl p hp => ?_, fun j x hj hm => ?_, seen_app T.seen fun op hop => (hu op hop).1, fun op hop a ha => ?_⟩
 · rintro said ⟨i, j, hij, ⟨a, b, ha, hb, hc⟩, n1, n2⟩
   rcases cases' i a ha with ⟨hi, ha'⟩ | h
   · rcases cases' j b hb with ⟨hj, hb'⟩ | h
     · exact T.clean said ⟨i, j, hij, ⟨a, b, ha', hb', hc⟩, fun e => n1 (hb_app u e), fun e => n2 (hb_app u e)⟩
     · exact (calm said i a b ha h).1 hc
   · exact (calm said j b a hb h).2 hc
 · rcases cases' j x hj with ⟨_, h'⟩ | ⟨b, hb, _, hW⟩
   · exact (T.own i h a hi hx j x h' hl).app u
   · rw [hl] at hb; cases hb
     rw [hfree i a (by rw [hi]; rfl) (.inl hx)] at hW; cases hW
 · rcases cases' j x hj with ⟨_, h'⟩ | ⟨b, hb, _, hW⟩
   · exact (T.rd i h a hi hx j x h' hl hw).app u
   · rw [hl] at hb; cases hb
     rw [hfree i a (by rw [hi]; rfl) (.inr hx)] at hW; cases hW
 · rcases cases' j x hj with ⟨hlt, h'⟩ | ⟨b, hb, hk, _⟩
   · rw [g?_old hlt]; exact T.wg j x a h' hl p hp
   · exact .inl hk
 · rcases cases' j x hj with ⟨_, h'⟩ | ⟨b, hb, hk, hW⟩
   · rcases T.all j x h' hm with ⟨k, h, hk, hh⟩ | h
     · exact .inl ⟨k, h, hk, hh.app u⟩
     · exact .inr h
   · exact .inr ⟨hk, .inr ⟨b, hb, hW⟩⟩
 · rcases Array.mem_append.1 hop with h | h
   · exact T.norel op h a ha
   · exact (hu op h).2.2 a
end
section
variable {ty : TypeId} {P : Program} {Fin : Perm -> Perm -> Goroutine -> World -> Prop} {Shun : Go.Loc -> Prop} {lo : Nat} {Z : Nat -> Prop} {w₀ : World} {G G' : Ghost} {gs : Array Goroutine} {t u : Trace} {w w' : World}
theorem act_mute' {e : Event} (h : e.mute = true) : MemAct.ofEvent e = .mark .disable ∨ MemAct.ofEvent e = .mark .enable := by
 obtain ⟨loc, wr, sy⟩ := e
 cases loc <;> simp_all [Event.mute]
 rename_i m
 cases m <;> simp_all [MemAct.ofEvent]
theorem Inv.free (I : Inv ty P Fin Shun lo Z w₀ G gs w t) : ∀ j a, (G.H j).isSome = true -> G.own j a ∨ G.rd j a -> G.W a.block = none := fun j a hj h => (I.base.low j a hj h).2.1
theorem groups_keep (I : Inv ty P Fin Shun lo Z w₀ G gs w t) {i : Nat} {ρ : Role} {wk : Bool} (hrole : ∀ j, G'.role j = if j = i then ρ else wakeRole wk (G.role j)) {p : Nat} (hp : p < gs.size) (hks : i ∈ G.kids p -> ρ.ks = (G.role i).ks)
   (hpar : G'.par = G.par) (hkids : G'.kids p = G.kids p) (hown : ∀ k ∈ G.kids p, (G'.own k = G.own k /\ G'.rd k = G.rd k /\ G'.H k = G.H k) ∨ (k = i /\ ∃ up, (G.role i).ks = .early up))
   (hW : ∀ z, G.W z = some p -> G'.W z = some p) (hwg : ∀ z st sm, G.W z = some p -> WgAt ty z w st sm -> WgAt ty z w' st sm)
   (hsame : ∀ k, (∃ r, G.H k = some (.past r)) -> ∀ a, G.own k a ∨ G.rd k a -> Same a w w') (hsize : w.heap.size <= w'.heap.size)
   (hpi : p = i -> ρ.cfg?.map Cfg.key = (G.role i).cfg?.map Cfg.key /\ ρ.stg? = (G.role i).stg? /\ (ρ.isBlk = true -> (G.role i).isBlk = true)) : GroupOk ty G' gs.size (t ++ u) w' p := by
 have hg := I.group p hp
 refine GroupOk.frame hg (Nat.le_refl _) ?_ ?_ ?_ hkids (fun k hk => ?_) (fun z hz => ?_) (fun k _ hr => hsame k hr) hsize
 · rw [hrole p]; split
   · rename_i e; rw [e]; exact (hpi e).1
   · rw [wakeRole_cfg]
 · rw [hrole p]; split
   · rename_i e; rw [e]; exact (hpi e).2.1
   · rw [wakeRole_stg]
 · rw [hrole p]; split
   · rename_i e; rw [e]; exact (hpi e).2.2
   · exact wakeRole_blk _ _
 · have e1 : (G'.role k).ks = (G.role k).ks := by
     rw [hrole k]; split
     · rename_i e; rw [e]; exact hks (e ▸ hk)
     · rw [wakeRole_ks]
   rcases hown k hk with ⟨e2, e3, e4⟩ | ⟨rfl, up, e2⟩
   · exact .inl ⟨e1, by rw [hpar], e2, e3, e4⟩
   · exact .inr ⟨e1, by rw [hpar], up, e2⟩
 · obtain ⟨c, hc, hcz⟩ := hz
   have hWz : G.W z = some p := by
     unfold GroupOk at hg
     rw [hc] at hg
     cases hs : (G.role p).stg? with
     | none =>
       exfalso
       revert hc hs
       cases G.role p with
       | act n s c => simp only [Role.cfg?, Role.stg?]; split <;> simp
       | blk n c => simp [Role.stg?]
       | quit q => simp [Role.cfg?]
     | some s =>
       rw [hs] at hg
       simp only [hcz] at hg
       exact hg.1
   exact ⟨(hW z hWz).trans hWz.symm, fun st sm h => hwg z st sm hWz h⟩
theorem step_quit (I : Inv ty P Fin Shun lo Z w₀ G gs w t) {i q : Nat} {g : Goroutine} {sl : Option (Nat × Nat)} (hi : gs[i]? = some g) (hrun : g.status = .running) (hr : G.role i = .quit q) :
   ∃ G' gs' w' ops, runT P (crowd gs w sl) i = (.next (crowd gs' w' sl), ops) /\ Lt3 (mu G' gs'.size) (mu G gs.size) /\ Inv ty P Fin Shun lo Z w₀ G' gs' w' (t ++ ops) := by
 have hlt : i < gs.size := (Array.getElem?_eq_some_iff.1 hi).1
 obtain ⟨x, hx, hl⟩ := I.loc i hlt
 rw [hi] at hx; cases hx
 rw [hr] at hl
 obtain ⟨hq, hnl, hi0⟩ := hl
 cases q with
 | zero => rw [hq.1] at hrun; cases hrun
 | succ k =>
   rcases hq with ⟨hf, _⟩ | ⟨_, g', es, hm, hst, hq'⟩
   · rw [hf] at hrun; cases hrun
   have hi0' : (i == 0) = false := by simpa using hi0
   have hgo : stepG P (i == 0) g w = .go g' w es := by rw [hi0']; exact hst w
   have hrun' := runT_crowd_go (P := P) (sl := sl) (i := i) hi hgo
   let G' : Ghost := { G with role := fun j => if j = i then .quit k else wakeRole (wakes P g g') (G.role j) }
   have hrole : ∀ j, G'.role j = if j = i then .quit k else wakeRole (wakes P g g') (G.role j) := fun _ => rfl
   refine ⟨G', _, w, _, hrun', ?_, ?_⟩
   · rw [show ((gs.map (woken P g g' w)).setIfInBounds i g').size = gs.size by simp]
     exact lt_left hrole hlt (by rw [hr]; rfl) (by rw [hr]; exact Nat.lt_succ_self k)
   · have tn : ∀ op ∈ MemOp.ofEvents i g.frame.fn g.frame.place es, op.act.touch? = none /\ op.act.low w.heap.size /\ ∀ a, op.act ≠ .mark (.release a) := by
       intro op hop
       obtain ⟨e, he, rfl⟩ := Conc.mem_ofEvents hop
       refine ⟨touch_mute (hm e he), low_mute (hm e he) _, fun a ea => ?_⟩
       rcases act_mute' (hm e he) with h | h <;> simp only [h] at ea <;> cases ea
     refine I.next hi hrole (fun j _ => .inl ⟨rfl, rfl, rfl⟩) (fun j c _ _ _ => Rely.refl ty c w) ⟨I.base.size, I.base.os, I.base.tape, I.base.output, I.base.groups, I.base.low, I.base.zlow, I.base.shun⟩
       (I.ti.quiet tn) (I.dull.quiet fun op hop => (tn op hop).1) I.sep ?_ (fun p hp => ?_) I.bare I.child
     · exact ⟨by rw [Deaf_own]; exact hq', hnl, hi0⟩
     · refine groups_keep (G' := G') I hrole hp (fun _ => by rw [hr]; rfl) rfl rfl (fun k _ => .inl ⟨rfl, rfl, rfl⟩) (fun _ h => h) (fun _ _ _ _ h => h) (fun k _ a _ => Same.refl a w) (Nat.le_refl _) (fun e => ?_)
       rw [hr]; exact ⟨rfl, rfl, fun h => by cases h⟩
end
end Go.Nest
