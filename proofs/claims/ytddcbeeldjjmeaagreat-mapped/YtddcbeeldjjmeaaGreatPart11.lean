/- TREES OF BITS, AS PLAIN DATA: what a tree has, with a. -/
import Init
import Derived.Test.YtddcbeeldjjmeaaGreatPart8
namespace Go.Tm
abbrev Bits := List Bool
inductive T (V : Type) where
 | empty
 | leaf (p : Bits) (v : V)
 | branch (p : Bits) (l r : T V)
def share : Bits -> Bits -> Nat
 | a :: as, b :: bs => if a = b then share as bs + 1 else 0
 | _, _ => 0
variable {V : Type}
def T.path : T V -> Bits
 | .empty => []
 | .leaf p _ => p
 | .branch p _ _ => p
def T.moved (q : Bits) : T V -> T V
 | .empty => .empty
 | .leaf _ v => .leaf q v
 | .branch _ l r => .branch q l r
def fork (p : Bits) (s : Bool) (there other : T V) : T V := if s then .branch p other there else .branch p there other
def parted (t : T V) (c : Nat) (b : Bits) (v : V) : T V :=
 match b.drop c with
 | [] => .empty
 | s :: rest => fork (b.take c) s (.leaf rest v) (t.moved (t.path.drop (c + 1)))
def T.wth : T V -> Bits -> V -> T V
 | .empty, b, v => .leaf b v
 | .leaf p x, b, v => if share p b < p.length then parted (.leaf p x) (share p b) b v else .leaf b v
 | .branch p l r, b, v =>
   if share p b < p.length then parted (.branch p l r) (share p b) b v
   else match b.drop p.length with
     | [] => .empty
     | true :: rest => .branch p l (r.wth rest v)
     | false :: rest => .branch p (l.wth rest v) r
def T.isEmpty : T V -> Bool
 | .empty => true
 | _ => false
def T.wo : T V -> Bits -> T V
 | .empty, _ => .empty
 | .leaf _ _, _ => .empty
 | .branch p l r, b => match b.drop p.length with
   | [] => .empty
   | true :: rest => let below := r.wo rest; if below.isEmpty then l.moved (p ++ [false] ++ l.path) else .branch p l below
   | false :: rest => let below := l.wo rest; if below.isEmpty then r.moved (p ++ [true] ++ r.path) else .branch p below r
def T.get : T V -> Bits -> Option V
 | .empty, _ => none
 | .leaf p v, b => if p = b then some v else none
 | .branch p l r, b => if p <+: b then (match b.drop p.length with
     | [] => none
     | true :: rest => r.get rest
     | false :: rest => l.get rest) else none
def T.walk (above : Bits) : T V -> List (Bits × V)
 | .empty => []
 | .leaf p v => [(above ++ p, v)]
 | .branch p l r => l.walk (above ++ p ++ [false]) ++ r.walk (above ++ p ++ [true])
def pre (q : Bits) (x : Bits × V) : Bits × V := (q ++ x.1, x.2)
theorem pre_pre (q r : Bits) : (pre q ∘ pre r : Bits × V -> Bits × V) = pre (q ++ r) := by
 funext x; simp [pre]
theorem map_pre_pre (q r : Bits) (l : List (Bits × V)) : (l.map (pre r)).map (pre q) = l.map (pre (q ++ r)) := by rw [List.map_map, pre_pre]
theorem pre_nil (l : List (Bits × V)) : l.map (pre []) = l := by
 have : (pre [] : Bits × V -> Bits × V) = id := by funext x; simp [pre]
 rw [this, List.map_id]
inductive Rep : List (Bits × V) -> T V -> Prop
 | empty : Rep [] .empty
 | leaf (p : Bits) (v : V) : Rep [(p, v)] (.leaf p v)
 | branch {l0 l1 : List (Bits × V)} {t0 t1 : T V} (p : Bits) : l0 ≠ [] -> l1 ≠ [] -> Rep l0 t0 -> Rep l1 t1 -> Rep (l0.map (pre (p ++ [false])) ++ l1.map (pre (p ++ [true]))) (.branch p t0 t1)
theorem rep_nil {l : List (Bits × V)} {t : T V} (h : Rep l t) : l = [] ↔ t = .empty := by
 cases h with
 | empty => simp
 | leaf p v => simp
 | branch p h0 h1 _ _ => simp [h0]
theorem rep_isEmpty {l : List (Bits × V)} {t : T V} (h : Rep l t) : t.isEmpty = true ↔ l = [] := by
 rw [rep_nil h]
 cases t <;> simp [T.isEmpty]
theorem rep_moved {l : List (Bits × V)} {t : T V} (h : Rep l t) (hl : l ≠ []) (q : Bits) : Rep (l.map (pre q)) (t.moved (q ++ t.path)) := by
 cases h with
 | empty => exact absurd rfl hl
 | leaf p v => exact .leaf _ _
 | @branch l0 l1 t0 t1 p h0 h1 a b =>
   have := Rep.branch (q ++ p) h0 h1 a b
   rw [List.map_append, map_pre_pre, map_pre_pre, <- List.append_assoc, <- List.append_assoc]
   exact this
def blt : Bits -> Bits -> Bool
 | [], [] => false
 | [], _ :: _ => true
 | _ :: _, [] => false
 | a :: as, b :: bs => if a = b then blt as bs else !a
def ins (b : Bits) (v : V) : List (Bits × V) -> List (Bits × V)
 | [] => [(b, v)]
 | x :: l => if b = x.1 then (b, v) :: l else if blt b x.1 then (b, v) :: x :: l else x :: ins b v l
def del (b : Bits) (l : List (Bits × V)) : List (Bits × V) := l.filter fun x => x.1 != b
def look (b : Bits) : List (Bits × V) -> Option V
 | [] => none
 | x :: l => if x.1 = b then some x.2 else look b l
theorem blt_pre (q a b : Bits) : blt (q ++ a) (q ++ b) = blt a b := by
 induction q with
 | nil => rfl
 | cons x q ih => simp [blt, ih]
theorem ins_pre (q b : Bits) (v : V) (l : List (Bits × V)) : ins (q ++ b) v (l.map (pre q)) = (ins b v l).map (pre q) := by
 induction l with
 | nil => rfl
 | cons x l ih =>
   simp only [List.map_cons, ins, pre, List.append_cancel_left_eq, blt_pre]
   split
   . rfl
   . split
     . rfl
     . rw [ih]; rfl
theorem ins_right {b : Bits} {v : V} {A B : List (Bits × V)} (h : ∀ x, x ∈ A -> b ≠ x.1 /\ blt b x.1 = false) : ins b v (A ++ B) = A ++ ins b v B := by
 induction A with
 | nil => rfl
 | cons x A ih =>
   have hx := h x List.mem_cons_self
   simp only [List.cons_append, ins, if_neg hx.1, hx.2, Bool.false_eq_true, if_false]
   rw [ih fun y hy => h y (List.mem_cons_of_mem _ hy)]
theorem ins_left {b : Bits} {v : V} {A B : List (Bits × V)} (h : ∀ x, x ∈ B -> b ≠ x.1 /\ blt b x.1 = true) : ins b v (A ++ B) = ins b v A ++ B := by
 induction A with
 | nil =>
   cases B with
   | nil => rfl
   | cons x B =>
     have hx := h x List.mem_cons_self
     simp only [List.nil_append, ins, if_neg hx.1, hx.2, if_true]
     rfl
 | cons x A ih =>
   simp only [List.cons_append, ins]
   split
   . rfl
   . split
     . rfl
     . rw [ih]; rfl
theorem del_append (b : Bits) (A B : List (Bits × V)) : del b (A ++ B) = del b A ++ del b B := by simp [del]
theorem del_pre (q b : Bits) (l : List (Bits × V)) : del (q ++ b) (l.map (pre q)) = (del b l).map (pre q) := by
 unfold del
 rw [List.filter_map]
 congr 1
 refine List.filter_congr fun x _ => ?_
 show ((q ++ x.1) != (q ++ b)) = (x.1 != b)
 rw [Bool.eq_iff_iff]
 simp
theorem del_none {b : Bits} {l : List (Bits × V)} (h : ∀ x, x ∈ l -> x.1 ≠ b) : del b l = l := by
 unfold del
 rw [List.filter_eq_self]
 intro x hx
 simp [h x hx]
theorem look_append (b : Bits) (A B : List (Bits × V)) : look b (A ++ B) = (look b A).or (look b B) := by
 induction A with
 | nil => simp [look]
 | cons x A ih =>
   simp only [List.cons_append, look]
   split
   . simp
   . exact ih
theorem look_pre (q b : Bits) (l : List (Bits × V)) : look (q ++ b) (l.map (pre q)) = look b l := by
 induction l with
 | nil => rfl
 | cons x l ih => simp [look, pre, ih]
theorem look_none {b : Bits} {l : List (Bits × V)} (h : ∀ x, x ∈ l -> x.1 ≠ b) : look b l = none := by
 induction l with
 | nil => rfl
 | cons x l ih => simp only [look, if_neg (h x List.mem_cons_self)]; exact ih fun y hy => h y (List.mem_cons_of_mem _ hy)
def Apart (a b : Bits) : Prop := a = b \/ ∃ q s x y, a = q ++ s :: x /\ b = q ++ (!s) :: y
theorem Apart.pre {q a b : Bits} (h : Apart (q ++ a) (q ++ b)) : Apart a b := by
 induction q with
 | nil => exact h
 | cons c q ih =>
   refine ih ?_
   rcases h with h | ⟨r, s, x, y, e1, e2⟩
   . simp only [List.cons_append, List.cons.injEq, true_and] at h; exact .inl h
   . cases r with
     | nil =>
       simp only [List.cons_append, List.nil_append, List.cons.injEq] at e1 e2
       have h1 := e1.1.symm.trans e2.1
       cases s <;> cases h1
     | cons d r =>
       simp only [List.cons_append, List.cons.injEq] at e1 e2
       exact .inr ⟨r, s, x, y, e1.2, e2.2⟩
theorem share_app (p x : Bits) : share p (p ++ x) = p.length := by
 induction p with
 | nil => cases x <;> rfl
 | cons a p ih => simp [share, ih]
theorem share_split (q : Bits) (s : Bool) (x y : Bits) : share (q ++ (!s) :: x) (q ++ s :: y) = q.length := by
 induction q with
 | nil => cases s <;> simp [share]
 | cons a q ih => simp [share, ih]
theorem stand (p b : Bits) : (∃ x, b = p ++ x) \/ (∃ q s x y, p = q ++ (!s) :: x /\ b = q ++ s :: y) \/ ∃ s x, p = b ++ s :: x := by
 induction p generalizing b with
 | nil => exact .inl ⟨b, rfl⟩
 | cons a p ih =>
   cases b with
   | nil => exact .inr (.inr ⟨a, p, rfl⟩)
   | cons c b =>
     by_cases h : a = c
     . subst h
       rcases ih b with ⟨x, rfl⟩ | ⟨q, s, x, y, rfl, rfl⟩ | ⟨s, x, rfl⟩
       . exact .inl ⟨x, rfl⟩
       . exact .inr (.inl ⟨a :: q, s, x, y, rfl, rfl⟩)
       . exact .inr (.inr ⟨s, x, rfl⟩)
     . refine .inr (.inl ⟨[], c, p, b, ?_, rfl⟩)
       have : a = !c := by cases a <;> cases c <;> simp_all
       rw [this]; rfl
theorem blt_split (q : Bits) (s : Bool) (x y : Bits) : blt (q ++ s :: x) (q ++ (!s) :: y) = !s := by
 rw [blt_pre]
 cases s <;> rfl
theorem ne_split (q : Bits) (s : Bool) (x y : Bits) : q ++ s :: x ≠ q ++ (!s) :: y := by
 intro h
 rw [List.append_cancel_left_eq, List.cons.injEq] at h
 cases s <;> cases h.1
variable {V : Type}
theorem rep_mem_path {l : List (Bits × V)} {t : T V} (h : Rep l t) : ∀ x, x ∈ l -> ∃ y, x.1 = t.path ++ y := by
 cases h with
 | empty => intro x hx; cases hx
 | leaf p v => intro x hx; rw [List.mem_singleton] at hx; subst hx; exact ⟨[], by simp [T.path]⟩
 | branch p _ _ _ _ =>
   intro x hx
   rcases List.mem_append.1 hx with hx | hx <;> obtain ⟨y, _, rfl⟩ := List.mem_map.1 hx
   . exact ⟨false :: y.1, by simp [pre, T.path]⟩
   . exact ⟨true :: y.1, by simp [pre, T.path]⟩
theorem rep_ne {l : List (Bits × V)} {t : T V} (h : Rep l t) (hl : l ≠ []) : ∃ x, x ∈ l := by
 cases l with
 | nil => exact absurd rfl hl
 | cons x l => exact ⟨x, List.mem_cons_self⟩
theorem ins_ne (b : Bits) (v : V) (l : List (Bits × V)) : ins b v l ≠ [] := by
 cases l with
 | nil => simp [ins]
 | cons z l =>
   unfold ins
   by_cases h1 : b = z.1
   . rw [if_pos h1]; simp
   . rw [if_neg h1]
     by_cases h2 : blt b z.1 = true
     . rw [if_pos h2]; simp
     . rw [if_neg h2]; simp
theorem del_other (p b : Bits) (s : Bool) (l : List (Bits × V)) : del (p ++ s :: b) (l.map (pre (p ++ [!s]))) = l.map (pre (p ++ [!s])) := del_none fun y hy => by
 obtain ⟨y, _, rfl⟩ := List.mem_map.1 hy
 simp only [pre, List.append_assoc, List.cons_append, List.nil_append, ne_eq, List.append_cancel_left_eq, List.cons.injEq, not_and]
 intro h
 cases s <;> cases h
theorem rep_parted {l : List (Bits × V)} {t : T V} (h : Rep l t) (hl : l ≠ []) {q : Bits} {s : Bool} {x y : Bits} {v : V} (hp : t.path = q ++ (!s) :: x) : Rep (ins (q ++ s :: y) v l) (parted t q.length (q ++ s :: y) v) := by
 have hm : ∀ z, z ∈ l -> ∃ r, z.1 = q ++ (!s) :: r := fun z hz => by
   obtain ⟨r, e⟩ := rep_mem_path h z hz
   exact ⟨x ++ r, by rw [e, hp]; simp⟩
 have hcut : t.path.drop (q.length + 1) = x := by
   rw [hp, show q ++ (!s) :: x = (q ++ [!s]) ++ x by simp, show q.length + 1 = (q ++ [!s]).length by simp, List.drop_left]
 have hmoved : ∃ l', l = l'.map (pre (q ++ [!s])) /\ l' ≠ [] /\ Rep l' (t.moved x) := by
   cases h with
   | empty => exact absurd rfl hl
   | leaf p w =>
     simp only [T.path] at hp
     subst hp
     exact ⟨[(x, w)], by simp [pre], by simp, .leaf _ _⟩
   | @branch l0 l1 t0 t1 p h0 h1 a b =>
     simp only [T.path] at hp
     subst hp
     refine ⟨_, ?_, ?_, .branch x h0 h1 a b⟩
     . rw [List.map_append, map_pre_pre, map_pre_pre]
       simp
     . simp [h0]
 obtain ⟨l', rfl, hl', hr⟩ := hmoved
 unfold parted
 rw [List.drop_left, List.take_left, hcut]
 cases s with
 | true =>
   have e : ins (q ++ true :: y) v (l'.map (pre (q ++ [false]))) = l'.map (pre (q ++ [false])) ++ [(y, v)].map (pre (q ++ [true])) := by
     have := ins_right (b := q ++ true :: y) (v := v) (A := l'.map (pre (q ++ [!true]))) (B := []) fun z hz => by
       obtain ⟨r, e⟩ := hm z hz
       rw [e]
       exact ⟨ne_split q true y r, blt_split q true y r⟩
     rw [List.append_nil] at this
     rw [show (q ++ [false]) = q ++ [!true] from rfl, this]
     simp [ins, pre]
   rw [show q ++ [!true] = q ++ [false] from rfl, e]
   simp only [fork, if_true]
   exact .branch q hl' (by simp) hr (.leaf _ _)
 | false =>
   have e : ins (q ++ false :: y) v (l'.map (pre (q ++ [true]))) = [(y, v)].map (pre (q ++ [false])) ++ l'.map (pre (q ++ [true])) := by
     have := ins_left (b := q ++ false :: y) (v := v) (A := []) (B := l'.map (pre (q ++ [!false]))) fun z hz => by
       obtain ⟨r, e⟩ := hm z hz
       rw [e]
       exact ⟨ne_split q false y r, blt_split q false y r⟩
     rw [List.nil_append] at this
     rw [show (q ++ [true]) = q ++ [!false] from rfl, this]
     simp [ins, pre]
   rw [show q ++ [!false] = q ++ [true] from rfl, e]
   simp only [fork, Bool.false_eq_true, if_false]
   exact .branch q (by simp) hl' (.leaf _ _) hr
theorem apart_stand {p b : Bits} {e : Bits} (h : Apart b (p ++ e)) : (∃ x, b = p ++ x) \/ ∃ q s x y, p = q ++ (!s) :: x /\ b = q ++ s :: y := by
 rcases stand p b with h1 | h1 | ⟨s, x, rfl⟩
 . exact .inl h1
 . exact .inr h1
 . exfalso
   rcases h with h | ⟨q, s', y, z, e1, e2⟩
   . have := congrArg List.length h
     simp at this
   . rw [e1] at e2
     simp only [List.append_assoc, List.cons_append, List.append_cancel_left_eq, List.cons.injEq] at e2
     cases s' <;> cases e2.1
theorem rep_wth {l : List (Bits × V)} {t : T V} (h : Rep l t) : ∀ (b : Bits) (v : V), (∀ x, x ∈ l -> Apart b x.1) -> Rep (ins b v l) (t.wth b v) := by
 induction h with
 | empty => exact fun b v _ => .leaf b v
 | leaf p w =>
   intro b v hA
   have h1 := hA (p, w) List.mem_cons_self
   rcases h1 with rfl | ⟨q, s, x, y, rfl, rfl⟩
   . have e : share b b = b.length := by have := share_app b []; rwa [List.append_nil] at this
     simp only [T.wth, e, Nat.lt_irrefl, if_false, ins, if_true]
     exact .leaf _ _
   . have e := share_split q s y x
     have hlt : q.length < (q ++ (!s) :: y).length := by simp
     simp only [T.wth, e, if_pos hlt]
     exact rep_parted (.leaf _ w) (by simp) rfl
 | @branch l0 l1 t0 t1 p h0 h1 a0 a1 ih0 ih1 =>
   intro b v hA
   obtain ⟨z0, hz0⟩ := rep_ne a0 h0
   obtain ⟨z1, hz1⟩ := rep_ne a1 h1
   have hA0 : ∀ x, x ∈ l0 -> Apart b (p ++ false :: x.1) := fun x hx => by
     have := hA (pre (p ++ [false]) x) (List.mem_append_left _ (List.mem_map.2 ⟨x, hx, rfl⟩))
     simpa [pre] using this
   have hA1 : ∀ x, x ∈ l1 -> Apart b (p ++ true :: x.1) := fun x hx => by
     have := hA (pre (p ++ [true]) x) (List.mem_append_right _ (List.mem_map.2 ⟨x, hx, rfl⟩))
     simpa [pre] using this
   rcases apart_stand (hA0 z0 hz0) with ⟨x, rfl⟩ | ⟨q, s, x, y, rfl, rfl⟩
   . cases x with
     | nil =>
       exfalso
       rw [List.append_nil] at hA0
       rcases hA0 z0 hz0 with h | ⟨q, s, x, y, e1, e2⟩
       . have := congrArg List.length h; simp at this
       . rw [e1] at e2
         simp only [List.append_assoc, List.cons_append, List.append_cancel_left_eq, List.cons.injEq] at e2
         cases s <;> cases e2.1
     | cons s rest =>
       have e := share_app p (s :: rest)
       simp only [T.wth, e, Nat.lt_irrefl, if_false, List.drop_left]
       cases s with
       | true =>
         have hr : ∀ z, z ∈ l1 -> Apart rest z.1 := fun z hz => by
           have := Apart.pre (hA1 z hz)
           exact Apart.pre (q := [true]) this
         have e2 : ins (p ++ true :: rest) v (l0.map (pre (p ++ [false])) ++ l1.map (pre (p ++ [true]))) = l0.map (pre (p ++ [false])) ++ (ins rest v l1).map (pre (p ++ [true])) := by
           rw [ins_right fun z hz => by
             obtain ⟨z, hz, rfl⟩ := List.mem_map.1 hz
             rw [show (pre (p ++ [false]) z).1 = p ++ (!true) :: z.1 by simp [pre]]
             exact ⟨ne_split p true rest _, blt_split p true rest _⟩]
           rw [show p ++ true :: rest = (p ++ [true]) ++ rest by simp, ins_pre]
         rw [e2]
         refine .branch p h0 ?_ a0 (ih1 rest v hr)
         exact ins_ne _ _ _
       | false =>
         have hr : ∀ z, z ∈ l0 -> Apart rest z.1 := fun z hz => by
           have := Apart.pre (hA0 z hz)
           exact Apart.pre (q := [false]) this
         have e2 : ins (p ++ false :: rest) v (l0.map (pre (p ++ [false])) ++ l1.map (pre (p ++ [true]))) = (ins rest v l0).map (pre (p ++ [false])) ++ l1.map (pre (p ++ [true])) := by
           rw [ins_left fun z hz => by
             obtain ⟨z, hz, rfl⟩ := List.mem_map.1 hz
             rw [show (pre (p ++ [true]) z).1 = p ++ (!false) :: z.1 by simp [pre]]
             exact ⟨ne_split p false rest _, blt_split p false rest _⟩]
           rw [show p ++ false :: rest = (p ++ [false]) ++ rest by simp, ins_pre]
         rw [e2]
         refine .branch p ?_ h1 (ih0 rest v hr) a1
         exact ins_ne _ _ _
   . have e := share_split q s x y
     have hlt : q.length < (q ++ (!s) :: x).length := by simp
     simp only [T.wth, e, if_pos hlt]
     exact rep_parted (.branch _ h0 h1 a0 a1) (by simp [h0]) rfl
theorem rep_wo {l : List (Bits × V)} {t : T V} (h : Rep l t) : ∀ (b : Bits), (∃ x, x ∈ l /\ x.1 = b) -> Rep (del b l) (t.wo b) := by
 induction h with
 | empty => rintro b ⟨x, hx, -⟩; cases hx
 | leaf p w =>
   rintro b ⟨x, hx, rfl⟩
   rw [List.mem_singleton] at hx
   subst hx
   simp only [T.wo, del, List.filter_cons, List.filter_nil, bne_self_eq_false, Bool.false_eq_true, if_false]
   exact .empty
 | @branch l0 l1 t0 t1 p h0 h1 a0 a1 ih0 ih1 =>
   rintro b ⟨x, hx, rfl⟩
   rcases List.mem_append.1 hx with hx | hx <;> obtain ⟨z, hz, rfl⟩ := List.mem_map.1 hx
   . have e1 : (pre (p ++ [false]) z).1 = p ++ false :: z.1 := by simp [pre]
     have e2 : del (p ++ false :: z.1) (l0.map (pre (p ++ [false])) ++ l1.map (pre (p ++ [true]))) = (del z.1 l0).map (pre (p ++ [false])) ++ l1.map (pre (p ++ [true])) := by
       have h3 := del_other p z.1 false l1
       rw [del_append, show (p ++ [true]) = p ++ [!false] from rfl, h3, show p ++ false :: z.1 = (p ++ [false]) ++ z.1 by simp, del_pre]
     have ih := ih0 z.1 ⟨z, hz, rfl⟩
     rw [e1, e2]
     simp only [T.wo, List.drop_left]
     by_cases he : (t0.wo z.1).isEmpty = true
     . rw [if_pos he, (rep_isEmpty ih).1 he]
       exact rep_moved a1 h1 _
     . rw [if_neg he]
       exact .branch p (fun e => he ((rep_isEmpty ih).2 e)) h1 ih a1
   . have e1 : (pre (p ++ [true]) z).1 = p ++ true :: z.1 := by simp [pre]
     have e2 : del (p ++ true :: z.1) (l0.map (pre (p ++ [false])) ++ l1.map (pre (p ++ [true]))) = l0.map (pre (p ++ [false])) ++ (del z.1 l1).map (pre (p ++ [true])) := by
       have h3 := del_other p z.1 true l0
       rw [del_append, show (p ++ [false]) = p ++ [!true] from rfl, h3, show p ++ true :: z.1 = (p ++ [true]) ++ z.1 by simp, del_pre]
     have ih := ih1 z.1 ⟨z, hz, rfl⟩
     rw [e1, e2]
     simp only [T.wo, List.drop_left]
     by_cases he : (t1.wo z.1).isEmpty = true
     . rw [if_pos he, (rep_isEmpty ih).1 he, List.map_nil, List.append_nil]
       exact rep_moved a0 h0 _
     . rw [if_neg he]
       exact .branch p h0 (fun e => he ((rep_isEmpty ih).2 e)) a0 ih
theorem rep_get {l : List (Bits × V)} {t : T V} (h : Rep l t) : ∀ (b : Bits), t.get b = look b l := by
 induction h with
 | empty => exact fun b => rfl
 | leaf p w => exact fun b => rfl
 | @branch l0 l1 t0 t1 p h0 h1 a0 a1 ih0 ih1 =>
   intro b
   by_cases hp : p <+: b
   . obtain ⟨x, rfl⟩ := hp
     simp only [T.get, List.prefix_append, if_true, List.drop_left]
     rw [look_append]
     cases x with
     | nil =>
       rw [look_none, look_none]
       . rfl
       . intro y hy
         obtain ⟨y, _, rfl⟩ := List.mem_map.1 hy
         simp [pre]
       . intro y hy
         obtain ⟨y, _, rfl⟩ := List.mem_map.1 hy
         simp [pre]
     | cons s rest =>
       cases s with
       | true =>
         rw [show p ++ true :: rest = (p ++ [true]) ++ rest by simp, look_pre, look_none fun y hy => ?_]
         . simp [ih1]
         . obtain ⟨y, _, rfl⟩ := List.mem_map.1 hy
           simp [pre]
       | false =>
         rw [show p ++ false :: rest = (p ++ [false]) ++ rest by simp, look_pre, look_none (l := l1.map _) fun y hy => ?_]
         . simp [ih0]
         . obtain ⟨y, _, rfl⟩ := List.mem_map.1 hy
           simp [pre]
   . simp only [T.get, if_neg hp]
     rw [look_append, look_none fun y hy => ?_, look_none fun y hy => ?_]
     . rfl
     . obtain ⟨y, _, rfl⟩ := List.mem_map.1 hy
       rintro rfl
       exact hp ⟨true :: y.1, by simp [pre]⟩
     . obtain ⟨y, _, rfl⟩ := List.mem_map.1 hy
       rintro rfl
       exact hp ⟨false :: y.1, by simp [pre]⟩
theorem rep_walk {l : List (Bits × V)} {t : T V} (h : Rep l t) : ∀ (above : Bits), t.walk above = l.map (pre above) := by
 induction h with
 | empty => exact fun _ => rfl
 | leaf p w => exact fun _ => rfl
 | @branch l0 l1 t0 t1 p h0 h1 a0 a1 ih0 ih1 =>
   intro above
   simp only [T.walk, ih0, ih1, List.map_append, map_pre_pre, List.append_assoc]
theorem rep_unique {l : List (Bits × V)} {t : T V} (h : Rep l t) : ∀ {t' : T V}, Rep l t' -> t = t' := by
 induction h with
 | empty => intro t' h'; exact ((rep_nil h').1 rfl).symm
 | leaf p w =>
   intro t' h'
   generalize e : [(p, w)] = l at h'
   cases h' with
   | empty => cases e
   | leaf p' w' => cases e; rfl
   | @branch l0 l1 _ _ q h0 h1 _ _ =>
     exfalso
     have := congrArg List.length e
     simp at this
     have a := List.length_pos_iff.2 h0
     have b := List.length_pos_iff.2 h1
     omega
 | @branch l0 l1 t0 t1 p h0 h1 a0 a1 ih0 ih1 =>
   intro t' h'
   generalize e : l0.map (pre (p ++ [false])) ++ l1.map (pre (p ++ [true])) = l at h'
   cases h' with
   | empty => simp [h0] at e
   | leaf p' w' =>
     exfalso
     have := congrArg List.length e
     simp at this
     have a := List.length_pos_iff.2 h0
     have b := List.length_pos_iff.2 h1
     omega
   | @branch m0 m1 s0 s1 q k0 k1 b0 b1 =>
     -- the paths are one
     have hside : ∀ (a b : Bits) (A0 A1 B0 B1 : List (Bits × V)), A0.map (pre (a ++ [false])) ++ A1.map (pre (a ++ [true])) = B0.map (pre (b ++ [false])) ++ B1.map (pre (b ++ [true])) -> A0 ≠ [] -> A1 ≠ [] -> B0 ≠ [] -> B1 ≠ [] -> ∀ s x, b ≠ a ++ s :: x := by
       rintro a b A0 A1 B0 B1 e hA0 hA1 hB0 hB1 s x rfl
       have hin : ∀ (r : Bool) z, z ∈ (if r then A1 else A0) -> r = s := fun r z hz => by
         have hm : pre (a ++ [r]) z ∈ A0.map (pre (a ++ [false])) ++ A1.map (pre (a ++ [true])) := by
           cases r
           . exact List.mem_append_left _ (List.mem_map.2 ⟨z, hz, rfl⟩)
           . exact List.mem_append_right _ (List.mem_map.2 ⟨z, hz, rfl⟩)
         rw [e] at hm
         rcases List.mem_append.1 hm with hm | hm <;> obtain ⟨y, _, e2⟩ := List.mem_map.1 hm
         . have := congrArg Prod.fst e2
           simp [pre] at this
           exact this.1.symm
         . have := congrArg Prod.fst e2
           simp [pre] at this
           exact this.1.symm
       obtain ⟨z0, hz0⟩ := List.exists_mem_of_ne_nil _ hA0
       obtain ⟨z1, hz1⟩ := List.exists_mem_of_ne_nil _ hA1
       have e0 := hin false z0 hz0
       have e1 := hin true z1 hz1
       rw [<- e1] at e0
       cases e0
     have hpq : p = q := by
       rcases stand p q with ⟨x, rfl⟩ | ⟨r, s, x, y, rfl, rfl⟩ | ⟨s, x, rfl⟩
       . cases x with
         | nil => simp
         | cons s x => exact absurd rfl (hside p _ _ _ _ _ e h0 h1 k0 k1 s x)
       . exfalso
         obtain ⟨z0, hz0⟩ := List.exists_mem_of_ne_nil _ h0
         have hm : pre (r ++ (!s) :: x ++ [false]) z0 ∈ m0.map (pre (r ++ s :: y ++ [false])) ++ m1.map (pre (r ++ s :: y ++ [true])) := by
           rw [<- e]; exact List.mem_append_left _ (List.mem_map.2 ⟨z0, hz0, rfl⟩)
         rcases List.mem_append.1 hm with hm | hm <;> obtain ⟨z, _, e2⟩ := List.mem_map.1 hm
         . have := congrArg Prod.fst e2
           simp [pre] at this
         . have := congrArg Prod.fst e2
           simp [pre] at this
       . exact absurd rfl (hside q _ _ _ _ _ e.symm k0 k1 h0 h1 s x)
     subst hpq
     -- the sides are one
     have hfil : ∀ (A0 A1 : List (Bits × V)), (A0.map (pre (p ++ [false])) ++ A1.map (pre (p ++ [true]))).filter (fun z => (z.1.drop p.length).headD true == false) = A0.map (pre (p ++ [false])) /\ (A0.map (pre (p ++ [false])) ++ A1.map (pre (p ++ [true]))).filter (fun z => (z.1.drop p.length).headD false == true) = A1.map (pre (p ++ [true])) := fun A0 A1 => by
       refine ⟨?_, ?_⟩
       . rw [List.filter_append, List.filter_eq_self.2, List.filter_eq_nil_iff.2, List.append_nil]
         . intro z hz; obtain ⟨y, _, rfl⟩ := List.mem_map.1 hz; simp [pre]
         . intro z hz; obtain ⟨y, _, rfl⟩ := List.mem_map.1 hz; simp [pre]
       . rw [List.filter_append, List.filter_eq_nil_iff.2, List.filter_eq_self.2, List.nil_append]
         . intro z hz; obtain ⟨y, _, rfl⟩ := List.mem_map.1 hz; simp [pre]
         . intro z hz; obtain ⟨y, _, rfl⟩ := List.mem_map.1 hz; simp [pre]
     have hinj : ∀ (q : Bits) (A B : List (Bits × V)), A.map (pre q) = B.map (pre q) -> A = B := fun q A B e => by
       refine (List.map_inj_right fun x y h => ?_).1 e
       simp only [pre, Prod.mk.injEq, List.append_cancel_left_eq] at h
       exact Prod.ext h.1 h.2
     have f0 : l0 = m0 := hinj (p ++ [false]) _ _ (by rw [<- (hfil l0 l1).1, e, (hfil m0 m1).1])
     have f1 : l1 = m1 := hinj (p ++ [true]) _ _ (by rw [<- (hfil l0 l1).2, e, (hfil m0 m1).2])
     subst f0 f1
     rw [ih0 b0, ih1 b1]
end Go.Tm
namespace Go.Tm
open Go Go.Nest
def sg (b : Bool) : UInt8 := if b then 49 else 48
def str (p : Bits) : ByteArray := ⟨(p.map sg).toArray⟩
theorem sg_inj {a b : Bool} (h : sg a = sg b) : a = b := by cases a <;> cases b <;> first | rfl | cases h
theorem sg_nat (b : Bool) : (sg b).toNat = 48 + b.toNat := by cases b <;> rfl
theorem str_list (p : Bits) : (str p).data.toList = p.map sg := by simp [str]
theorem str_size (p : Bits) : (str p).size = p.length := by simp [str, ByteArray.size]
theorem bytes_ext {a b : ByteArray} (h : a.data.toList = b.data.toList) : a = b := by
 cases a; cases b
 simp only at h
 rw [Array.toList_inj.1 h]
theorem str_take (p : Bits) (k : Nat) : (str p).extract 0 k = str (p.take k) := bytes_ext (by
 rw [ByteArray.data_extract, Array.toList_extract, str_list, str_list, List.extract_eq_take_drop, List.map_take]; simp)
theorem str_drop (p : Bits) (k : Nat) : (str p).extract k p.length = str (p.drop k) := bytes_ext (by
 rw [ByteArray.data_extract, Array.toList_extract, str_list, str_list, List.extract_eq_take_drop, List.map_drop]
 exact List.take_of_length_le (by simp))
theorem str_append (p q : Bits) : str p ++ str q = str (p ++ q) := bytes_ext (by
 rw [ByteArray.data_append, Array.toList_append, str_list, str_list, str_list, List.map_append])
theorem str_inj {p q : Bits} (h : str p = str q) : p = q := by
 have := congrArg (·.data.toList) h
 simp only [str_list] at this
 exact (List.map_inj_right fun _ _ h => sg_inj h).1 this
theorem str_get (p : Bits) (i : Nat) (h : i < (str p).size) : (str p)[i] = sg (p[i]'(by rw [str_size] at h; exact h)) := by
 have : (str p).data.toList[i]? = some ((str p)[i]) := by
   rw [Array.getElem?_toList, ByteArray.getElem_eq_getElem_data]
   exact Array.getElem?_eq_getElem h
 rw [str_list] at this
 have hi : i < p.length := by rw [str_size] at h; exact h
 simp [hi] at this
 exact this.symm
theorem str_head (s : Bool) (p : Bits) (h : 0 < (str (s :: p)).size) : (str (s :: p))[0] = sg s := str_get _ _ h
def T.tr : T ByteArray -> Tr
 | .empty => .empty
 | .leaf p v => .leaf (str p) v
 | .branch p l r => .branch (str p) l.tr r.tr
theorem share_le : ∀ (a b : Bits), share a b <= a.length /\ share a b <= b.length
 | [], b => by simp [share]
 | a :: as, [] => by simp [share]
 | a :: as, b :: bs => by
   have := share_le as bs
   simp only [share, List.length_cons]
   split <;> omega
theorem share_same : ∀ (a b : Bits) (i : Nat), i < share a b -> a[i]? = b[i]?
 | [], b, i, h => by simp [share] at h
 | a :: as, [], i, h => by simp [share] at h
 | a :: as, b :: bs, i, h => by
   simp only [share] at h
   split at h
   . rename_i e
     subst e
     cases i with
     | zero => rfl
     | succ i => simp only [List.getElem?_cons_succ]; exact share_same as bs i (by omega)
   . omega
theorem share_stop : ∀ (a b : Bits), share a b < a.length -> share a b < b.length -> a[share a b]? ≠ b[share a b]?
 | [], b, h, _ => by simp [share] at h
 | a :: as, [], h, k => by simp at k
 | a :: as, b :: bs, h, k => by
   simp only [share] at h k ⊢
   split at h
   . rename_i e
     subst e
     simp only [if_true] at k ⊢
     simp only [List.getElem?_cons_succ]
     exact share_stop as bs (by simpa using h) (by simpa using k)
   . rename_i e
     simp only [if_neg e, List.getElem?_cons_zero, ne_eq, Option.some.injEq]
     exact e
def bitOf (c : UInt8) (i : Nat) : Bool := c.toNat / 2 ^ i % 2 == 1
def eight (c : UInt8) : Bits := [bitOf c 7, bitOf c 6, bitOf c 5, bitOf c 4, bitOf c 3, bitOf c 2, bitOf c 1, bitOf c 0]
def kbs : List UInt8 -> Bits
 | [] => []
 | c :: l => true :: (eight c ++ kbs l)
def kb (l : List UInt8) : Bits := kbs l ++ [false]
theorem kbs_append (a b : List UInt8) : kbs (a ++ b) = kbs a ++ kbs b := by
 induction a with
 | nil => rfl
 | cons c a ih => simp [kbs, ih]
theorem kbs_length (l : List UInt8) : (kbs l).length = 9 * l.length := by
 induction l with
 | nil => rfl
 | cons c l ih => simp [kbs, eight, ih]; omega
theorem kb_length (l : List UInt8) : (kb l).length = 9 * l.length + 1 := by simp [kb, kbs_length]
theorem eight_nat (n : Nat) (h : n < 256) : n = n / 2 ^ 7 % 2 * 128 + n / 2 ^ 6 % 2 * 64 + n / 2 ^ 5 % 2 * 32 + n / 2 ^ 4 % 2 * 16 + n / 2 ^ 3 % 2 * 8 + n / 2 ^ 2 % 2 * 4 + n / 2 ^ 1 % 2 * 2 + n / 2 ^ 0 % 2 := by
 simp only [Nat.reducePow]; omega
theorem bitOf_eq {a b : UInt8} {i : Nat} (h : bitOf a i = bitOf b i) : a.toNat / 2 ^ i % 2 = b.toNat / 2 ^ i % 2 := by
 unfold bitOf at h
 have h1 : (a.toNat / 2 ^ i % 2 = 1) ↔ (b.toNat / 2 ^ i % 2 = 1) := by
   constructor
   . intro e; rw [beq_iff_eq.2 e] at h; exact beq_iff_eq.1 h.symm
   . intro e; rw [beq_iff_eq.2 e] at h; exact beq_iff_eq.1 h
 omega
theorem eight_inj {a b : UInt8} (h : eight a = eight b) : a = b := by
 simp only [eight, List.cons.injEq, and_true] at h
 obtain ⟨h7, h6, h5, h4, h3, h2, h1, h0⟩ := h
 apply UInt8.toNat_inj.1
 rw [eight_nat a.toNat a.toNat_lt, eight_nat b.toNat b.toNat_lt, bitOf_eq h7, bitOf_eq h6, bitOf_eq h5, bitOf_eq h4, bitOf_eq h3, bitOf_eq h2, bitOf_eq h1, bitOf_eq h0]
theorem apart_eq : ∀ (a b : Bits), a.length = b.length -> a ≠ b -> ∃ q s x y, a = q ++ s :: x /\ b = q ++ (!s) :: y
 | [], [], _, h => absurd rfl h
 | a :: as, b :: bs, hl, h => by
   by_cases e : a = b
   . subst e
     have hl' : as.length = bs.length := by simpa using hl
     obtain ⟨q, s, x, y, rfl, rfl⟩ := apart_eq as bs hl' (fun e => h (by rw [e]))
     exact ⟨a :: q, s, x, y, rfl, rfl⟩
   . refine ⟨[], a, as, bs, rfl, ?_⟩
     cases a <;> cases b <;> first | rfl | exact absurd rfl e
theorem kb_apart : ∀ (a b : List UInt8), a ≠ b -> ∃ q s x y, kb a = q ++ s :: x /\ kb b = q ++ (!s) :: y
 | [], [], h => absurd rfl h
 | [], c :: b, _ => ⟨[], false, [], eight c ++ kb b, rfl, by simp [kb, kbs]⟩
 | c :: a, [], _ => ⟨[], true, eight c ++ kb a, [], by simp [kb, kbs], rfl⟩
 | c :: a, d :: b, h => by
   by_cases e : c = d
   . subst e
     obtain ⟨q, s, x, y, h1, h2⟩ := kb_apart a b (fun e => h (by rw [e]))
     refine ⟨true :: (eight c ++ q), s, x, y, ?_, ?_⟩
     . show true :: (eight c ++ kbs a) ++ [false] = _
       rw [List.cons_append, List.append_assoc, show kbs a ++ [false] = kb a from rfl, h1]; simp
     . show true :: (eight c ++ kbs b) ++ [false] = _
       rw [List.cons_append, List.append_assoc, show kbs b ++ [false] = kb b from rfl, h2]; simp
   . obtain ⟨q, s, x, y, h1, h2⟩ := apart_eq (eight c) (eight d) rfl (fun h => e (eight_inj h))
     refine ⟨true :: q, s, x ++ kb a, y ++ kb b, ?_, ?_⟩
     . show true :: (eight c ++ kbs a) ++ [false] = _
       rw [List.cons_append, List.append_assoc, show kbs a ++ [false] = kb a from rfl, h1]; simp
     . show true :: (eight d ++ kbs b) ++ [false] = _
       rw [List.cons_append, List.append_assoc, show kbs b ++ [false] = kb b from rfl, h2]; simp
theorem kb_inj {a b : List UInt8} (h : kb a = kb b) : a = b := by
 by_cases e : a = b
 . exact e
 . obtain ⟨q, s, x, y, h1, h2⟩ := kb_apart a b e
   rw [h1, h2] at h
   simp at h
theorem kb_parts (a b : List UInt8) : Apart (kb a) (kb b) := by
 by_cases e : a = b
 . subst e; exact .inl rfl
 . obtain ⟨q, s, x, y, h1, h2⟩ := kb_apart a b e
   exact .inr ⟨q, s, x, y, h1, h2⟩
def klt : List UInt8 -> List UInt8 -> Bool
 | [], [] => false
 | [], _ :: _ => true
 | _ :: _, [] => false
 | a :: as, b :: bs => if a = b then klt as bs else decide (a.toNat < b.toNat)
theorem klt_irr (a : List UInt8) : klt a a = false := by
 induction a with
 | nil => rfl
 | cons c a ih => simp [klt, ih]
theorem klt_asymm : ∀ {a b : List UInt8}, klt a b = true -> klt b a = false
 | [], [], h => rfl
 | [], _ :: _, _ => rfl
 | _ :: _, [], h => by cases h
 | c :: a, d :: b, h => by
   simp only [klt] at h ⊢
   by_cases e : c = d
   . subst e; rw [if_pos rfl] at h ⊢; exact klt_asymm h
   . rw [if_neg e] at h; rw [if_neg (Ne.symm e)]
     have := of_decide_eq_true h
     exact decide_eq_false (by omega)
theorem klt_trans : ∀ {a b c : List UInt8}, klt a b = true -> klt b c = true -> klt a c = true
 | [], [], _, h, _ => by cases h
 | [], _ :: _, [], _, h => by cases h
 | [], _ :: _, _ :: _, _, _ => rfl
 | _ :: _, [], _, h, _ => by cases h
 | _ :: _, _ :: _, [], _, h => by cases h
 | x :: a, y :: b, z :: c, h, k => by
   simp only [klt] at h k ⊢
   by_cases e : x = y
   . subst e
     rw [if_pos rfl] at h
     by_cases e2 : x = z
     . subst e2; rw [if_pos rfl] at k ⊢; exact klt_trans h k
     . rw [if_neg e2] at k ⊢; exact k
   . rw [if_neg e] at h
     have h1 := of_decide_eq_true h
     by_cases e2 : y = z
     . subst e2; rw [if_neg e]; exact h
     . rw [if_neg e2] at k
       have h2 := of_decide_eq_true k
       have e3 : x ≠ z := fun e => by subst e; omega
       rw [if_neg e3]
       exact decide_eq_true (by omega)
theorem klt_total : ∀ (a b : List UInt8), klt a b = false -> klt b a = false -> a = b
 | [], [], _, _ => rfl
 | [], _ :: _, h, _ => by cases h
 | _ :: _, [], _, h => by cases h
 | c :: a, d :: b, h, k => by
   simp only [klt] at h k
   by_cases e : c = d
   . subst e; rw [if_pos rfl] at h k; rw [klt_total a b h k]
   . rw [if_neg e] at h; rw [if_neg (Ne.symm e)] at k
     have h1 := of_decide_eq_false h
     have h2 := of_decide_eq_false k
     exact absurd (UInt8.toNat_inj.1 (by omega)) e
theorem klt_ne {a b : List UInt8} (h : klt a b = true) : a ≠ b := fun e => by subst e; rw [klt_irr] at h; cases h
def bval : Bits -> Nat
 | [] => 0
 | b :: q => b.toNat * 2 ^ q.length + bval q
theorem bval_lt (q : Bits) : bval q < 2 ^ q.length := by
 induction q with
 | nil => simp [bval]
 | cons a q ih =>
   simp only [bval, List.length_cons, Nat.pow_succ]
   cases a <;> simp only [Bool.toNat_true, Bool.toNat_false, Nat.one_mul, Nat.zero_mul] <;> omega
theorem blt_val : ∀ (p q x y : Bits), p.length = q.length -> p ≠ q -> blt (p ++ x) (q ++ y) = decide (bval p < bval q)
 | [], [], _, _, _, h => absurd rfl h
 | a :: p, b :: q, x, y, hl, h => by
   have hl' : p.length = q.length := by simpa using hl
   have h1 := bval_lt p
   have h2 := bval_lt q
   simp only [List.cons_append, blt]
   by_cases e : a = b
   . subst e
     rw [if_pos rfl, blt_val p q x y hl' (fun e => h (by rw [e]))]
     refine decide_eq_decide.2 ?_
     simp only [bval]
     rw [hl']; omega
   . rw [if_neg e]
     cases a <;> cases b
     . exact absurd rfl e
     . refine (decide_eq_true ?_).symm
       simp only [bval, Bool.toNat_true, Bool.toNat_false, Nat.one_mul, Nat.zero_mul]
       rw [hl'] at h1; omega
     . refine (decide_eq_false ?_).symm
       simp only [bval, Bool.toNat_true, Bool.toNat_false, Nat.one_mul, Nat.zero_mul]
       rw [<- hl'] at h2; omega
     . exact absurd rfl e
theorem bval_eight (c : UInt8) : bval (eight c) = c.toNat := by
 have h := eight_nat c.toNat c.toNat_lt
 have hb : ∀ n : Nat, (n % 2 == 1).toNat = n % 2 := fun n => by
   rcases Nat.mod_two_eq_zero_or_one n with e | e <;> rw [e] <;> rfl
 simp only [eight, bval, bitOf, hb, List.length_cons, List.length_nil]
 simp only [Nat.reducePow, Nat.reduceAdd] at h ⊢
 omega
theorem blt_kb : ∀ (a b : List UInt8), blt (kb a) (kb b) = klt a b
 | [], [] => rfl
 | [], _ :: _ => rfl
 | _ :: _, [] => rfl
 | c :: a, d :: b => by
   have e1 : kb (c :: a) = true :: (eight c ++ kb a) := by simp [kb, kbs]
   have e2 : kb (d :: b) = true :: (eight d ++ kb b) := by simp [kb, kbs]
   rw [e1, e2]
   simp only [blt, if_true, klt]
   by_cases e : c = d
   . subst e; rw [if_pos rfl, blt_pre, blt_kb a b]
   . rw [if_neg e, blt_val (eight c) (eight d) _ _ rfl (fun h => e (eight_inj h)), bval_eight, bval_eight]
variable {V : Type}
abbrev Kv (V : Type) := List (List UInt8 × V)
def toBits (l : Kv V) : List (Bits × V) := l.map fun x => (kb x.1, x.2)
def Rising (l : Kv V) : Prop := l.Pairwise fun x y => klt x.1 y.1 = true
def kwo (k : List UInt8) (l : Kv V) : Kv V := l.filter fun x => x.1 != k
def kput (k : List UInt8) (v : V) (l : Kv V) : Kv V := (kwo k l).takeWhile (fun x => klt x.1 k) ++ (k, v) :: (kwo k l).dropWhile (fun x => klt x.1 k)
def khas (k : List UInt8) : Kv V -> Option V
 | [] => none
 | x :: l => if x.1 = k then some x.2 else khas k l
theorem kwo_none {k : List UInt8} {l : Kv V} (h : ∀ x, x ∈ l -> x.1 ≠ k) : kwo k l = l := List.filter_eq_self.2 fun x hx => bne_iff_ne.2 (h x hx)
theorem kwo_cons_ne {k : List UInt8} {x : List UInt8 × V} {l : Kv V} (h : x.1 ≠ k) : kwo k (x :: l) = x :: kwo k l := List.filter_cons_of_pos (bne_iff_ne.2 h)
theorem kwo_cons_eq {k : List UInt8} {x : List UInt8 × V} {l : Kv V} (h : x.1 = k) : kwo k (x :: l) = kwo k l := List.filter_cons_of_neg (by simp [h])
theorem head_stop {k : List UInt8} {l : Kv V} (h : ∀ x, x ∈ l -> klt x.1 k = false) : l.takeWhile (fun x => klt x.1 k) = [] /\ l.dropWhile (fun x => klt x.1 k) = l := by
 cases l with
 | nil => exact ⟨rfl, rfl⟩
 | cons x l =>
   have := h x List.mem_cons_self
   exact ⟨List.takeWhile_cons_of_neg (by rw [this]; decide), List.dropWhile_cons_of_neg (by rw [this]; decide)⟩
theorem kput_at {k : List UInt8} {v : V} {l : Kv V} (h : ∀ x, x ∈ l -> klt k x.1 = true) : kput k v l = (k, v) :: l := by
 have h1 : kwo k l = l := kwo_none fun x hx => (klt_ne (h x hx)).symm
 obtain ⟨h2, h3⟩ := head_stop (k := k) (l := l) fun x hx => klt_asymm (h x hx)
 unfold kput; rw [h1, h2, h3]; rfl
theorem kput_eq {k : List UInt8} {v : V} {y : List UInt8 × V} {l : Kv V} (he : y.1 = k) (h : ∀ x, x ∈ l -> klt k x.1 = true) : kput k v (y :: l) = (k, v) :: l := by
 have := kput_at (v := v) h
 unfold kput at this ⊢; rw [kwo_cons_eq he]; exact this
theorem kput_after {k : List UInt8} {v : V} {y : List UInt8 × V} {l : Kv V} (h : klt y.1 k = true) : kput k v (y :: l) = y :: kput k v l := by
 unfold kput
 rw [kwo_cons_ne (klt_ne h), List.takeWhile_cons_of_pos (p := fun x => klt x.1 k) (a := y) h, List.dropWhile_cons_of_pos (p := fun x => klt x.1 k) (a := y) h]; rfl
theorem bits_put {k : List UInt8} {v : V} {l : Kv V} (hr : Rising l) : toBits (kput k v l) = ins (kb k) v (toBits l) := by
 induction l with
 | nil => rfl
 | cons y l ih =>
   obtain ⟨hy, hl⟩ := List.pairwise_cons.1 hr
   show toBits (kput k v (y :: l)) = ins (kb k) v ((kb y.1, y.2) :: toBits l)
   simp only [ins]
   by_cases e : y.1 = k
   . rw [if_pos (by rw [e]), kput_eq e fun x hx => e ▸ hy x hx]; rfl
   . rw [if_neg (fun h => e (kb_inj h).symm), blt_kb]
     cases h : klt k y.1 with
     | true => rw [if_pos rfl, kput_at (fun x hx => by
         rcases List.mem_cons.1 hx with rfl | hx
         . exact h
         . exact klt_trans h (hy x hx))]; rfl
     | false =>
       have h2 : klt y.1 k = true := by
         cases h3 : klt y.1 k with
         | true => rfl
         | false => exact absurd (klt_total _ _ h3 h) e
       rw [if_neg (by decide), kput_after h2, <- ih hl]; rfl
theorem bits_wo (k : List UInt8) (l : Kv V) : toBits (kwo k l) = del (kb k) (toBits l) := by
 induction l with
 | nil => rfl
 | cons y l ih =>
   by_cases e : y.1 = k
   . rw [kwo_cons_eq e, ih]
     show _ = del (kb k) ((kb y.1, y.2) :: toBits l)
     unfold del; rw [List.filter_cons_of_neg (by simp [e])]
   . rw [kwo_cons_ne e]
     show (kb y.1, y.2) :: toBits (kwo k l) = del (kb k) ((kb y.1, y.2) :: toBits l)
     have e2 : kb y.1 ≠ kb k := fun h => e (kb_inj h)
     unfold del at ih ⊢; rw [List.filter_cons_of_pos (by simpa using e2), ih]
theorem bits_has (k : List UInt8) (l : Kv V) : look (kb k) (toBits l) = khas k l := by
 induction l with
 | nil => rfl
 | cons y l ih =>
   show look (kb k) ((kb y.1, y.2) :: toBits l) = _
   simp only [look, khas]
   by_cases e : y.1 = k
   . rw [if_pos (by rw [e]), if_pos e]
   . rw [if_neg (fun h => e (kb_inj h)), if_neg e, ih]
theorem khas_mem {k : List UInt8} {v : V} : ∀ {l : Kv V}, khas k l = some v -> (k, v) ∈ l
 | [], h => by cases h
 | x :: l, h => by
   simp only [khas] at h
   by_cases e : x.1 = k
   . rw [if_pos e] at h; cases h; subst e; exact List.mem_cons_self
   . rw [if_neg e] at h; exact List.mem_cons_of_mem _ (khas_mem h)
theorem khas_none {k : List UInt8} : ∀ {l : Kv V}, khas k l = none ↔ ∀ x, x ∈ l -> x.1 ≠ k
 | [] => by simp [khas]
 | x :: l => by
   simp only [khas]
   by_cases e : x.1 = k
   . rw [if_pos e]; constructor
     . intro h; cases h
     . intro h; exact absurd e (h x List.mem_cons_self)
   . rw [if_neg e, khas_none]; constructor
     . intro h y hy; rcases List.mem_cons.1 hy with rfl | hy
       . exact e
       . exact h y hy
     . intro h y hy; exact h y (List.mem_cons_of_mem _ hy)
theorem khas_wo (k j : List UInt8) (l : Kv V) : khas j (kwo k l) = if j = k then none else khas j l := by
 induction l with
 | nil => simp [kwo, khas]
 | cons y l ih =>
   by_cases e : y.1 = k
   . rw [kwo_cons_eq e, ih]
     by_cases e2 : j = k
     . rw [if_pos e2, if_pos e2]
     . rw [if_neg e2, if_neg e2]
       simp only [khas]
       rw [if_neg (fun h => e2 (h.symm.trans e))]
   . rw [kwo_cons_ne e]
     simp only [khas]
     by_cases e2 : y.1 = j
     . rw [if_pos e2, if_pos e2, if_neg (fun h => e (e2.trans h))]
     . rw [if_neg e2, if_neg e2, ih]
theorem mem_kput {k : List UInt8} {v : V} {l : Kv V} {x : List UInt8 × V} (h : x ∈ kput k v l) : x = (k, v) \/ (x ∈ l /\ x.1 ≠ k) := by
 unfold kput at h
 have hs : ∀ y, y ∈ kwo k l -> y ∈ l /\ y.1 ≠ k := fun y hy => ⟨(List.mem_filter.1 hy).1, bne_iff_ne.1 (List.mem_filter.1 hy).2⟩
 rcases List.mem_append.1 h with h | h
 . exact .inr (hs _ (List.takeWhile_sublist _ |>.mem h))
 . rcases List.mem_cons.1 h with h | h
   . exact .inl h
   . exact .inr (hs _ (List.dropWhile_sublist _ |>.mem h))
theorem Rising.put {k : List UInt8} {v : V} {l : Kv V} (hr : Rising l) : Rising (kput k v l) := by
 induction l with
 | nil => exact List.pairwise_cons.2 ⟨fun _ h => absurd h List.not_mem_nil, List.Pairwise.nil⟩
 | cons y l ih =>
   obtain ⟨hy, hl⟩ := List.pairwise_cons.1 hr
   by_cases e : y.1 = k
   . rw [kput_eq e fun x hx => e ▸ hy x hx]
     exact List.pairwise_cons.2 ⟨fun x hx => e ▸ hy x hx, hl⟩
   . cases h : klt k y.1 with
     | true =>
       have hall : ∀ x, x ∈ y :: l -> klt k x.1 = true := fun x hx => by
         rcases List.mem_cons.1 hx with rfl | hx
         . exact h
         . exact klt_trans h (hy x hx)
       rw [kput_at hall]; exact List.pairwise_cons.2 ⟨hall, hr⟩
     | false =>
       have h2 : klt y.1 k = true := by
         cases h3 : klt y.1 k with
         | true => rfl
         | false => exact absurd (klt_total _ _ h3 h) e
       rw [kput_after h2]
       refine List.pairwise_cons.2 ⟨fun x hx => ?_, ih hl⟩
       rcases mem_kput hx with rfl | ⟨hx, _⟩
       . exact h2
       . exact hy x hx
theorem khas_put (k j : List UInt8) (v : V) {l : Kv V} (hr : Rising l) : khas j (kput k v l) = if j = k then some v else khas j l := by
 induction l with
 | nil =>
   show khas j [(k, v)] = _
   simp only [khas]
   by_cases e : k = j
   . rw [if_pos e, if_pos e.symm]
   . rw [if_neg e, if_neg (Ne.symm e)]
 | cons y l ih =>
   obtain ⟨hy, hl⟩ := List.pairwise_cons.1 hr
   by_cases e : y.1 = k
   . rw [kput_eq e fun x hx => e ▸ hy x hx]
     simp only [khas]
     by_cases e2 : k = j
     . rw [if_pos e2, if_pos e2.symm]
     . rw [if_neg e2, if_neg (Ne.symm e2), if_neg (fun h => e2 (e.symm.trans h))]
   . cases h : klt k y.1 with
     | true =>
       rw [kput_at (fun x hx => by
         rcases List.mem_cons.1 hx with rfl | hx
         . exact h
         . exact klt_trans h (hy x hx))]
       show (if k = j then some v else khas j (y :: l)) = _
       by_cases e2 : k = j
       . rw [if_pos e2, if_pos e2.symm]
       . rw [if_neg e2, if_neg (Ne.symm e2)]
     | false =>
       have h2 : klt y.1 k = true := by
         cases h3 : klt y.1 k with
         | true => rfl
         | false => exact absurd (klt_total _ _ h3 h) e
       rw [kput_after h2]
       simp only [khas]
       rw [ih hl]
       by_cases e2 : y.1 = j
       . rw [if_pos e2, if_pos e2, if_neg (fun h => e (e2.trans h))]
       . rw [if_neg e2, if_neg e2]
theorem rising_ext : ∀ {a b : Kv V}, Rising a -> Rising b -> (∀ k, khas k a = khas k b) -> a = b
 | [], [], _, _, _ => rfl
 | [], y :: b, _, _, h => by have := h y.1; simp [khas] at this
 | x :: a, [], _, _, h => by have := h x.1; simp [khas] at this
 | x :: a, y :: b, ha, hb, h => by
   obtain ⟨hx, ha'⟩ := List.pairwise_cons.1 ha
   obtain ⟨hy, hb'⟩ := List.pairwise_cons.1 hb
   have e : x.1 = y.1 := by
     by_cases e : x.1 = y.1
     . exact e
     . exfalso
       have h1 := h x.1
       have h2 := h y.1
       simp only [khas] at h1 h2
       rw [if_pos trivial, if_neg (Ne.symm e)] at h1
       rw [if_pos trivial, if_neg e] at h2
       have m1 := hy _ (khas_mem h1.symm)
       have m2 := hx _ (khas_mem h2)
       have := klt_asymm m1
       rw [show klt x.1 y.1 = true from m2] at this
       cases this
   have ev : x.2 = y.2 := by
     have h1 := h x.1
     simp only [khas] at h1
     rw [if_pos trivial, if_pos e.symm] at h1
     exact Option.some.inj h1
   have exy : x = y := Prod.ext e ev
   subst exy
   congr 1
   refine rising_ext ha' hb' fun k => ?_
   have hk := h k
   simp only [khas] at hk
   by_cases ek : x.1 = k
   . have n1 : khas k a = none := khas_none.2 fun z hz e2 => klt_ne (hx z hz) (ek.trans e2.symm)
     have n2 : khas k b = none := khas_none.2 fun z hz e2 => klt_ne (hy z hz) (ek.trans e2.symm)
     rw [n1, n2]
   . rw [if_neg ek, if_neg ek] at hk; exact hk
end Go.Tm
