/- THE OPERATIONS OF A PIECE, ALIKE ON EITHER SIDE (tenth part): going over a map. -/
import Derived.Test.YtddcbeeldjjmeaaGreatPart4
import Derived.Conc.Listed
namespace Go.Eq
open Go
section
variable [Env] {P : Program} {α β γ δ : Type} {Q : Ren -> γ -> δ -> Prop} {π : Ren}
theorem LERel.mk {e e' : MapEntry} {l l' : List MapEntry} (hk : VRel π e.key e'.key) (hv : VRel π e.val e'.val) (hb : e.born = e'.born) (h : LERel π l l') : LERel π (e :: l) (e' :: l') := by
 refine ⟨by simp [h.1], fun i x x' hx hx' => ?_⟩
 cases i with
 | zero => cases hx; cases hx'; exact ⟨hk, hv, hb⟩
 | succ i => exact h.2 i x x' (by simpa using hx) (by simpa using hx')
theorem LERel.born {e e' : MapEntry} {l l' : List MapEntry} (h : LERel π (e :: l) (e' :: l')) : e.born = e'.born := (h.2 0 e e' rfl rfl).2.2
theorem LERel.filter {p : Nat -> Bool} : ∀ {l l' : List MapEntry}, LERel π l l' -> LERel π (l.filter fun e => p e.born) (l'.filter fun e => p e.born)
 | [], [], _ => ⟨rfl, fun i e e' h => by simp at h⟩
 | [], _ :: _, h => by cases h.1
 | _ :: _, [], h => by cases h.1
 | e :: l, e' :: l', h => by
   have hb := h.born
   obtain ⟨⟨h1, h2⟩, h3⟩ := h.cons
   have ih := LERel.filter (p := p) h3
   simp only [List.filter_cons]
   rw [<- hb]
   by_cases hp : p e.born = true
   · rw [if_pos hp, if_pos hp]; exact .mk h1 h2 hb ih
   · rw [if_neg hp, if_neg hp]; exact ih
theorem ERel.ofList {es es' : Array MapEntry} (h : LERel π es.toList es'.toList) : ERel π es es' := ⟨by simpa using h.1, fun i e e' h1 h2 => h.2 i e e' (by simpa using h1) (by simpa using h2)⟩
theorem ERel.filter {p : Nat -> Bool} {es es' : Array MapEntry} (h : ERel π es es') : ERel π (es.filter fun e => p e.born) (es'.filter fun e => p e.born) :=
 .ofList (by simpa using h.toList.filter (p := p))
theorem r_range {t : TypeId} {x x' : Value} (hx : VRel π x x') : SRel P VQ π (Instr.range t x) (Instr.range t x') := by
 have key : ∀ {o o' : Obj}, ORel π o o' -> ice o = ice o' -> SRel P VQ π (do pure (.pointer (some ⟨<- newObj o, 0, none⟩))) (do pure (.pointer (some ⟨<- newObj o', 0, none⟩))) := fun ho hi =>
   go_newObj ho hi fun r r' _ _ hl => .pure (.pointer ⟨by simp [Ren.upd], rfl, rfl, hl⟩)
 unfold Instr.range
 refine go_underlying fun d hd => ?_
 cases d <;> cases hx <;> first | exact SRel.halt | skip
 all_goals first
   | exact key (show ORel π (.stringIter _ 0) (.stringIter _ 0) from ⟨rfl, rfl⟩) rfl
   | exact key (show ORel π (.mapIter none 0 #[] 0) (.mapIter none 0 #[] 0) from ⟨trivial, rfl, rfl, rfl⟩) rfl
   | skip
 rename_i hr
 refine go_getObj hr fun o o' ho => ?_
 cases o <;> cases o' <;> first | exact ho.elim | exact SRel.halt | skip
 obtain ⟨he, rfl⟩ := ho
 exact key (show ORel π (.mapIter (some _) _ #[] _) (.mapIter (some _) _ #[] _) from ⟨hr, rfl, rfl, rfl⟩) rfl
theorem ERel.append {a a' b b' : Array MapEntry} (h : ERel π a a') (g : ERel π b b') : ERel π (a ++ b) (a' ++ b') := by
 refine ⟨by simp [h.1, g.1], fun i x x' hx hx' => ?_⟩
 rw [Array.getElem?_append] at hx hx'
 rw [<- h.1] at hx'
 split at hx
 · rename_i hi; rw [if_pos hi] at hx'; exact h.2 i x x' hx hx'
 · rename_i hi; rw [if_neg hi] at hx'; exact g.2 _ x x' hx hx'
theorem LERel.all {p : Nat -> Bool} : ∀ {l l' : List MapEntry}, LERel π l l' -> (l.all fun e => p e.born) = l'.all fun e => p e.born
 | [], [], _ => rfl
 | [], _ :: _, h => by cases h.1
 | _ :: _, [], h => by cases h.1
 | e :: l, e' :: l', h => by
   have hb := h.born
   obtain ⟨-, h3⟩ := h.cons
   simp only [List.all_cons]
   rw [hb, LERel.all (p := p) h3]
theorem ERel.all {p : Nat -> Bool} {es es' : Array MapEntry} (h : ERel π es es') : (es.all fun e => p e.born) = es'.all fun e => p e.born := by
 rw [<- Array.all_toList, <- Array.all_toList]
 exact h.toList.all (p := p)
theorem ERel.isEmpty {es es' : Array MapEntry} (h : ERel π es es') : es.isEmpty = es'.isEmpty := by simp [Array.isEmpty, h.1]
def cands (old new : Array MapEntry) : Array (Option MapEntry) := (if old.isEmpty then #[none] else #[]) ++ (old ++ new).map some
theorem cands_rel {old old' new new' : Array MapEntry} (ho : ERel π old old') (hn : ERel π new new') : (cands old new).size = (cands old' new').size /\ ∀ n : Nat, ((cands old new)[n]? = none /\ (cands old' new')[n]? = none) ∨ ((cands old new)[n]? = some none /\ (cands old' new')[n]? = some none) ∨
   ∃ e e', (cands old new)[n]? = some (some e) /\ (cands old' new')[n]? = some (some e') /\ VRel π e.key e'.key /\ VRel π e.val e'.val /\ e.born = e'.born := by
 have hA := ho.append hn
 have he := ho.isEmpty
 unfold cands
 rw [<- he]
 have hget : ∀ n : Nat, (((old ++ new).map some)[n]? = none /\ ((old' ++ new').map some)[n]? = none) ∨ ∃ e e', ((old ++ new).map some)[n]? = some (some e) /\ ((old' ++ new').map some)[n]? = some (some e') /\ VRel π e.key e'.key /\ VRel π e.val e'.val /\ e.born = e'.born := fun n => by
   rw [Array.getElem?_map, Array.getElem?_map]
   cases h1 : (old ++ new)[n]? with
   | none =>
     have : (old' ++ new')[n]? = none := Array.getElem?_eq_none (by rw [<- hA.1]; exact Array.getElem?_eq_none_iff.1 h1)
     rw [this]; exact .inl ⟨rfl, rfl⟩
   | some e =>
     have hlt : n < (old' ++ new').size := by rw [<- hA.1]; exact (Array.getElem?_eq_some_iff.1 h1).1
     have h2 : (old' ++ new')[n]? = some (old' ++ new')[n] := Array.getElem?_eq_getElem hlt
     rw [h2]
     exact .inr ⟨e, _, rfl, rfl, hA.2 n _ _ h1 h2⟩
 cases old.isEmpty with
 | false =>
   simp only [Bool.false_eq_true, if_false, Array.empty_append]
   exact ⟨by rw [Array.size_map, Array.size_map]; exact hA.1, fun n => (hget n).imp id .inr⟩
 | true =>
   simp only [if_true]
   refine ⟨by simp only [Array.size_append, Array.size_map]; rw [<- Array.size_append, <- Array.size_append, hA.1], fun n => ?_⟩
   rw [Array.getElem?_append, Array.getElem?_append]
   by_cases hn0 : n < (#[none] : Array (Option MapEntry)).size
   · rw [if_pos hn0, if_pos hn0]
     have : n = 0 := by simpa using hn0
     subst this
     exact .inr (.inl ⟨rfl, rfl⟩)
   · rw [if_neg hn0, if_neg hn0]
     exact (hget _).imp id .inr
theorem r_setObj {r r' : Nat} (hr : π r = some r') {o o' : Obj} (ho : ORel π o o') (hc : ∀ c t f, o ≠ .cells c t f) (hs : ¬ Env.sealed r) : SRel P UQ π (setObj r o) (setObj r' o') := SRel.setObj hr ho hc hs (.pure trivial)
theorem r_next (hsl : ∀ b, ¬ Env.sealed b) {x x' : Value} (hx : VRel π x x') {b : Bool} {t : TypeId} : SRel P VQ π (Instr.next x b t) (Instr.next x' b t) := by
 have hover : SRel P VQ π (pure (.tuple #[.bool false])) (pure (.tuple #[.bool false])) := by
   have h : VsRel π #[.bool false] #[.bool false] := (VsRel.empty π).push (.bool false)
   exact .pure (.tuple h.1 h.2)
 have hret : ∀ {π' : Ren} {v v' w w' : Value}, VRel π' v v' -> VRel π' w w' -> VRel π' (.tuple #[.bool true, v, w]) (.tuple #[.bool true, v', w']) := fun {π'} {v v' w w'} h1 h2 => by
   have h : VsRel π' #[.bool true, v, w] #[.bool true, v', w'] := (((VsRel.empty π').push (.bool true)).push h1).push h2
   exact .tuple h.1 h.2
 unfold Instr.next
 cases hx with
 | pointer ha =>
   rename_i a a'
   obtain ⟨r, off, sp⟩ := a
   obtain ⟨r', off', sp'⟩ := a'
   obtain ⟨hr, ho, -, -⟩ := ha
   simp only at ho hr
   subst ho
   cases off with
   | succ n => exact SRel.halt
   | zero =>
     refine go_getObj hr fun o o' ho => ?_
     cases b with
     | true =>
       cases o <;> cases o' <;> first | exact ho.elim | exact SRel.halt | (rename_i m _ _ _ m' _ _ _; cases m <;> cases m' <;> exact SRel.halt) | skip
       obtain ⟨rfl, rfl⟩ := ho
       refine r_ite (fun _ => ?_) fun _ => hover
       refine SRel.bind' (r_setObj hr (show ORel π (.stringIter _ _) (.stringIter _ _) from ⟨rfl, rfl⟩) (fun c t f e => by cases e) (hsl _)) fun π' _ _ _ _ => ?_
       exact .pure (hret (.int _ _) (.int _ _))
     | false =>
       cases o <;> cases o' <;> first | exact ho.elim | exact SRel.halt | skip
       rename_i m a1 s1 b1 m' a2 s2 b2
       obtain ⟨hm, rfl, rfl, rfl⟩ := ho
       cases m with
       | none =>
         cases m' with
         | none => exact hover
         | some _ => exact hm.elim
       | some m =>
         cases m' with
         | none => exact hm.elim
         | some m' =>
           refine go_getObj (show π m = some m' from hm) fun o o' ho => ?_
           cases o <;> cases o' <;> first | exact ho.elim | exact SRel.halt | skip
           rename_i es cl es' cl'
           obtain ⟨he, rfl⟩ := ho
           have h1 := he.isEmpty
           have h2 := he.all (p := fun n => decide (n ≥ b1))
           have hL := he.filter (p := fun n => !s1.contains n)
           have hO := hL.filter (p := fun n => decide (n < a1))
           have hN := hL.filter (p := fun n => decide (n ≥ a1))
           obtain ⟨hsz, hat⟩ := cands_rel hO hN
           simp only []
           rw [<- h1, <- h2]
           refine r_ite (fun _ => go_unsupported) fun _ => ?_
           show SRel P VQ π (choose (.mapNext (cands _ _).size) >>= _) (choose (.mapNext (cands _ _).size) >>= _)
           rw [<- hsz]
           refine go_choose fun n => ?_
           rcases hat n with ⟨e1, e2⟩ | ⟨e1, e2⟩ | ⟨e, e', e1, e2, hk, hv, hb⟩ <;> unfold cands at e1 e2 <;> rw [e1, e2]
           · exact SRel.halt
           · exact hover
           · refine SRel.bind' (r_setObj hr (show ORel π (.mapIter (some m) a1 (s1.push e.born) cl) (.mapIter (some m') a1 (s1.push e'.born) cl) from ⟨hm, rfl, by rw [hb], rfl⟩) (fun c t f e => by cases e) (hsl _)) fun π' _ _ hle _ => ?_
             exact .pure (hret (hk.mono hle) (hv.mono hle))
 | _ => exact SRel.halt
theorem LERel.find {p : Nat -> Bool} : ∀ {l l' : List MapEntry}, LERel π l l' -> ((l.find? fun e => p e.born) = none /\ (l'.find? fun e => p e.born) = none) ∨ ∃ e e', (l.find? fun e => p e.born) = some e /\ (l'.find? fun e => p e.born) = some e' /\ VRel π e.key e'.key /\ VRel π e.val e'.val
 | [], [], _ => .inl ⟨rfl, rfl⟩
 | [], _ :: _, h => by cases h.1
 | _ :: _, [], h => by cases h.1
 | e :: l, e' :: l', h => by
   have hb := h.born
   obtain ⟨⟨h1, h2⟩, h3⟩ := h.cons
   simp only [List.find?_cons]
   rw [<- hb]
   cases p e.born with
   | true => exact .inr ⟨e, e', rfl, rfl, h1, h2⟩
   | false => exact LERel.find (p := p) h3
theorem r_entry {x x' : Value} (hx : VRel π x x') : SRel P VQ π (Instr.entry x) (Instr.entry x') := by
 unfold Instr.entry
 cases hx with
 | pointer ha =>
   rename_i a a'
   obtain ⟨r, off, sp⟩ := a
   obtain ⟨r', off', sp'⟩ := a'
   obtain ⟨hr, ho, -, -⟩ := ha
   simp only at ho hr
   subst ho
   cases off with
   | succ n => exact SRel.halt
   | zero =>
     refine go_getObj hr fun o o' ho => ?_
     cases o <;> cases o' <;> first | exact ho.elim | exact SRel.halt | skip
     rename_i m a1 s1 b1 m' a2 s2 b2
     obtain ⟨hm, rfl, rfl, rfl⟩ := ho
     cases m with
     | none =>
       cases m' with
       | none => exact SRel.halt
       | some _ => exact hm.elim
     | some m =>
       cases m' with
       | none => exact hm.elim
       | some m' =>
         simp only []
         cases hs : s1.back? with
         | none => exact SRel.halt
         | some stamp =>
           refine go_getObj (show π m = some m' from hm) fun o o' ho => ?_
           cases o <;> cases o' <;> first | exact ho.elim | exact SRel.halt | skip
           rename_i es cl es' cl'
           obtain ⟨he, rfl⟩ := ho
           refine r_ite (fun _ => go_unsupported) fun _ => ?_
           have hf := he.toList.find (p := fun n => n == stamp)
           rw [Array.find?_toList, Array.find?_toList] at hf
           rcases hf with ⟨e1, e2⟩ | ⟨e, e', e1, e2, hk, hv⟩
           · rw [e1, e2]; exact SRel.halt
           · rw [e1, e2]
             have h : VsRel π #[e.key, e.val] #[e'.key, e'.val] := ((VsRel.empty π).push hk).push hv
             exact .pure (.tuple h.1 h.2)
 | _ => exact SRel.halt
end
section
variable [Env] {P : Program} {α β γ δ : Type} {Q : Ren -> γ -> δ -> Prop} {π : Ren}
theorem r_copy {ts : Array TypeId} {t : TypeId} {xs xs' : Array Value} (hx : VsRel π xs xs') : SRel P VQ π (Builtin.copy_ ts t xs) (Builtin.copy_ ts t xs') := by
 unfold Builtin.copy_
 rcases hx.get? 0 with ⟨e, e'⟩ | ⟨s, s', e, e', hs⟩
 · rw [e, e']; split <;> first | exact SRel.halt | (rename_i h; simp at h)
 rcases hx.get? 1 with ⟨e1, e1'⟩ | ⟨x, x', e1, e1', hxx⟩
 · rw [e, e', e1, e1']; split <;> first | exact SRel.halt | (rename_i h; simp at h)
 rw [e, e', e1, e1']
 cases h0 : ts[0]? with
 | none => exact SRel.halt
 | some sT =>
   simp only []
   refine go_underlying fun d _ => ?_
   cases d <;> simp only [] <;> try exact SRel.halt
   cases hs with
   | snil n c => exact go_lenOf hxx fun m => go_sizeOf fun z => go_firstCells hxx fun c c' hc => .pure (.int _ _)
   | slice n c ha => exact go_lenOf hxx fun m => go_sizeOf fun z => go_firstCells hxx fun c c' hc => go_storeCells ha (by exact SRel.pure (VRel.int _ _)) 0 hc.toList
   | _ => exact SRel.halt
theorem go_freeze {a a' : Addr} {n : Nat} (ha : ARel π a a') (hs : ¬ Env.sealed a.block) {f : Unit -> Sem γ} {g : Unit -> Sem δ} (h : SRel P Q π (f ()) (g ())) : SRel P Q π (freeze a n >>= f) (freeze a' n >>= g) := SRel.freeze ha hs h
theorem go_loadBytes : ∀ (n : Nat) {a a' : Addr} (_ : ARel π a a') (acc : ByteArray) {f : ByteArray -> Sem γ} {g : ByteArray -> Sem δ}, (∀ b, SRel P Q π (f b) (g b)) -> SRel P Q π (loadBytes a acc n >>= f) (loadBytes a' acc n >>= g)
 | 0, _, _, _, _, _, _, h => h _
 | n + 1, a, a', ha, acc, f, g, h => by
   simp only [loadBytes]
   rw [bind_assoc, bind_assoc]
   refine go_load ha fun v v' hv => ?_
   cases hv with
   | int k b => cases k <;> first | exact SRel.halt | exact go_loadBytes n (ha.add 1) _ h
   | _ => exact SRel.halt
theorem go_elemOf {t : TypeId} {f : TypeId -> Sem γ} {g : TypeId -> Sem δ} (h : ∀ e, SRel P Q π (f e) (g e)) : SRel P Q π (elemOf t >>= f) (elemOf t >>= g) := by
 unfold elemOf
 rw [bind_assoc, bind_assoc]
 refine go_underlying fun d _ => ?_
 cases d <;> first | exact SRel.halt | exact h _
theorem go_variablesAt {a a' : Addr} (ha : ARel π a a') {u : TypeId} {n : Nat} {f : Bool -> Sem γ} {g : Bool -> Sem δ} (h : ∀ b, SRel P Q π (f b) (g b)) : SRel P Q π (variablesAt a u n >>= f) (variablesAt a' u n >>= g) := by
 unfold variablesAt
 rw [bind_assoc, bind_assoc]
 refine go_program ?_
 rw [bind_assoc, bind_assoc]
 refine go_shape ha.1 fun s => ?_
 cases s with
 | none => exact h _
 | some s => rw [ha.2.1]; exact h _
theorem r_unsafeString (hns : ∀ b, ¬ Env.sealed b) {ts : Array TypeId} {t : TypeId} {xs xs' : Array Value} (hx : VsRel π xs xs') : SRel P VQ π (Builtin.unsafeString_ ts t xs) (Builtin.unsafeString_ ts t xs') := by
 unfold Builtin.unsafeString_
 obtain ⟨l⟩ := xs
 obtain ⟨l'⟩ := xs'
 have hl := hx.toList
 simp only at hl
 cases hl with
 | nil => exact SRel.halt
 | cons hp hl =>
   cases hl with
   | nil => cases hp <;> exact SRel.halt
   | cons hn hl =>
     cases hl with
     | cons _ _ => cases hp <;> exact SRel.halt
     | nil =>
       cases hp with
       | pnil =>
         refine go_asInt hn fun n => ?_
         cases ts[0]? with
         | none => exact SRel.halt
         | some pt =>
           simp only []
           by_cases h1 : n < 0
           · simp only [if_pos h1]; exact go_panic
           simp only [if_neg h1]
           by_cases h2 : n > IntKind.i64.max
           · simp only [if_pos h2]; exact SRel.halt
           simp only [if_neg h2]
           by_cases h3 : n = 0
           · simp only [if_pos h3]; exact .pure (.string _)
           · simp only [if_neg h3]; exact .dead dead_panic
       | pointer ha =>
         refine go_asInt hn fun n => ?_
         cases ts[0]? with
         | none => exact SRel.halt
         | some pt =>
           simp only []
           by_cases h1 : n < 0
           · simp only [if_pos h1]; exact go_panic
           simp only [if_neg h1]
           by_cases h2 : n > IntKind.i64.max
           · simp only [if_pos h2]; exact SRel.halt
           simp only [if_neg h2]
           by_cases h3 : n = 0
           · simp only [if_pos h3]; exact .pure (.string _)
           · simp only [if_neg h3]
             refine go_elemOf fun e => go_variablesAt ha fun b => ?_
             cases b
             · exact SRel.halt
             · exact go_loadBytes _ ha _ fun s => go_freeze ha (hns _) (.pure (.string _))
       | _ => exact SRel.halt
end
section
variable [Env] {P : Program} {α β γ δ : Type} {Q : Ren -> γ -> δ -> Prop} {π : Ren}
theorem r_indexAt {t : TypeId} {x x' i i' : Value} (hx : VRel π x x') (hi : VRel π i i') : SRel P VQ π (Instr.indexAt t x i) (Instr.indexAt t x' i') := by
 unfold Instr.indexAt
 refine go_asIntOf hi fun k n => go_underlying fun d hd => ?_
 cases d with
 | array len elem =>
   exact go_sureAddr hx fun a a' ha => go_underlying fun d' hd' => r_ite (fun _ => go_sizeOf fun m => .pure (.pointer (ha.add _))) fun _ => r_ite (fun _ => SRel.halt) fun _ => .dead dead_bounds
 | slice elem =>
   cases hx with
   | snil l c => exact go_underlying fun d' hd' => .dead dead_bounds
   | slice l c ha =>
     exact go_underlying fun d' hd' => r_ite (fun _ => go_sizeOf fun m => .pure (.pointer (ha.add _))) fun _ => r_ite (fun _ => SRel.halt) fun _ => .dead dead_bounds
   | _ => exact SRel.halt
 | _ => cases hx <;> exact SRel.halt
def NRel (π : Ren) : Next -> Next -> Prop
 | .value v, .value v' => VRel π v v'
 | .skip, .skip => True
 | .enter f xs, .enter f' xs' => f = f' /\ Env.fnOk f /\ VsRel π xs xs'
 | .round l f xs a b, .round l' f' xs' a' b' => π l = some l' /\ f = f' /\ VsRel π xs xs' /\ a = a' /\ b = b' /\ Env.codeOk a /\ Env.codeOk b
 | _, _ => False
def FnsOk (P : Program) : Prop := ∀ f, Env.fnOk f -> ∃ fn, P.funcs[f]? = some fn /\ (fn.name == "runtime.NumGoroutine") = false /\ fn.body.isNone = false
theorem r_value {x y : Sem Value} (h : SRel P VQ π x y) : SRel P NRel π (do pure (.value (<- x))) (do pure (.value (<- y))) :=
 SRel.bind' h fun _ _ _ _ hv => .pure hv
theorem r_unit {x y : Sem Unit} (h : SRel P UQ π x y) : SRel P NRel π (do x; pure .skip) (do y; pure .skip) :=
 SRel.bind' h fun _ _ _ _ _ => .pure trivial
theorem r_callFunc (hf : FnsOk P) {f : FuncId} (h : Env.fnOk f) {xs xs' : Array Value} (hx : VsRel π xs xs') : SRel P NRel π (callFunc f xs) (callFunc f xs') := by
 unfold callFunc
 refine go_program ?_
 obtain ⟨fn, h1, h2, h3⟩ := hf f h
 rw [h1]
 simp only [h2, h3, Bool.false_eq_true, if_false]
 exact .pure ⟨rfl, h, hx⟩
theorem go_getLoop {l l' : Nat} (hl : π l = some l') {f : Loop -> Sem γ} {g : Loop -> Sem δ} (h : ∀ r r', LRel π r r' -> SRel P Q π (f r) (g r')) : SRel P Q π (Instr.getLoop l >>= f) (Instr.getLoop l' >>= g) := by
 unfold Instr.getLoop
 rw [bind_assoc, bind_assoc]
 refine go_getObj hl fun o o' ho => ?_
 cases o <;> cases o' <;> simp only [ORel] at ho <;> first | exact SRel.halt | exact h _ _ ho
theorem fold_rel : ∀ {ps : List Tmp} {xs xs' : List Value} {c c' : Array Value}, LsRel π xs xs' -> VsRel π c c' ->
   VsRel π ((ps.zip xs).foldl (fun (tmps : Array Value) (x : Tmp × Value) => tmps.setIfInBounds x.1 x.2) c) ((ps.zip xs').foldl (fun (tmps : Array Value) (x : Tmp × Value) => tmps.setIfInBounds x.1 x.2) c')
 | [], _, _, _, _, _, h => by simpa using h
 | _ :: _, _, _, _, _, .nil, h => by simpa using h
 | p :: ps, _, _, _, _, .cons hv hl, h => by
   simp only [List.zip_cons_cons, List.foldl_cons]
   exact fold_rel hl (h.set p hv)
theorem r_yield {l l' : Nat} (hl : π l = some l') {xs xs' : Array Value} (hx : VsRel π xs xs') : SRel P NRel π (Instr.yield l xs) (Instr.yield l' xs') := by
 unfold Instr.yield
 refine go_getLoop hl fun r r' hr => ?_
 rw [<- hx.1, <- hr.params]
 by_cases hs : xs.size ≠ r.params.size
 · rw [if_pos hs, if_pos hs]; exact SRel.halt
 · rw [if_neg hs, if_neg hs]
   refine .pure ⟨hl, hr.fn, ?_, hr.assign, hr.body, hr.assignOk, hr.bodyOk⟩
   have := fold_rel (ps := r.params.toList) hx.toList hr.tmps
   rw [<- Array.foldl_toList, <- Array.foldl_toList, Array.toList_zip, Array.toList_zip]
   exact this
theorem r_callValue (hf : FnsOk P) {v v' : Value} (hv : VRel π v v') {xs xs' : Array Value} (hargs : VsRel π xs xs') : SRel P NRel π (do let d <- Deferred.ofValue v xs; invoke d.target d.args) (do let d <- Deferred.ofValue v' xs'; invoke d.target d.args) := by
 cases hv with
 | func h1 h2 h3 h4 h5 =>
   rename_i g g' _ _ _ _
   cases g <;> cases g' <;> first | exact h1.elim | skip
   · obtain ⟨rfl, hg⟩ := h1
     exact r_callFunc hf hg ((VsRel.append ⟨h2, h3⟩ hargs).append ⟨h4, h5⟩)
   · exact r_yield h1 (VsRel.append ⟨h2, h3⟩ hargs)
 | nilFunc => exact .dead (show DeadS P (runtimePanic .nilDeref) from dead_panic)
 | junk _ =>
   refine .dead ?_
   have e : (#[Value.nilIface, v'] ++ xs)[0]? = some Value.nilIface := by
     rw [Array.getElem?_append_left (by simp)]; rfl
   show DeadS P (invoke (.fn (.method "") #[]) (#[Value.nilIface, v'] ++ xs))
   unfold invoke
   simp only [e]
   exact (show DeadS P (runtimePanic .nilDeref) from dead_panic)
 | _ => exact SRel.halt
def Fit (P : Program) (o : Oper) : Prop :=
 match o.op with
 | .alloc t | .build t _ => t < P.types.size
 | .buildSlice t _ _ | .makeSlice t _ _ => ∀ e, P.underlying t = some (.slice e) -> e < P.types.size
 | .move _ | .assign _ | .pick _ _ _ | .box _ _ | .load _ _ | .store _ _ _ | .nilCheck _ | .slice _ _ _ _ _ | .fieldAddr _ _ _ | .indexAddr _ _ _ | .index _ _ _ => True
 | .binOp op t _ y _ => (EqOp op -> Scalar P t) ∨ (EqOp op /\ (∃ e, P.underlying t = some (.pointer e)) /\ y = .const (.pointer none)) ∨ (EqOp op /\ FlatStruct P t)
 | .convert s d _ => ConvOk P s d
 | .extract _ _ | .unOp _ _ _ | .range _ _ | .entry _ => True
 | .next _ _ => ∀ b, ¬ Env.sealed b
 | .makeMap _ r => r = none
 | .makeFunc fn _ _ => ∃ f, fn = .func f /\ Env.fnOk f
 | .lookup t _ _ _ => ∀ kt el, P.underlying t = some (.map kt el) -> Scalar P kt /\ el < P.types.size
 | .mapUpdate t _ _ _ => (∀ b, ¬ Env.sealed b) /\ ∀ kt el, P.underlying t = some (.map kt el) -> Scalar P kt
 | .call c => match c.callee with
   | .value _ => True
   | .builtin .len | .builtin .min | .builtin .max | .builtin .copy => True
   | .builtin .unsafeString => ∀ b, ¬ Env.sealed b
   | .builtin .delete => (∀ b, ¬ Env.sealed b) /\ ∀ t, c.argTypes[0]? = some t -> ∀ kt el, P.underlying t = some (.map kt el) -> Scalar P kt
   | .builtin .clear => (∀ b, ¬ Env.sealed b) /\ ∀ t, c.argTypes[0]? = some t -> ∃ kt el, P.underlying t = some (.map kt el)
   | .builtin .append => (∀ x, c.argTypes[0]? = some x -> ∀ e, P.underlying x = some (.slice e) -> e < P.types.size) /\ ∀ x, c.argTypes[1]? = some x -> ∀ k, P.underlying x ≠ some (.int k)
   | _ => False
 | _ => False
theorem OVRel.map {ρ ρ' : Operand -> Value} {o : Option Operand} (h : ∀ x, o = Option.some x -> VRel π (ρ x) (ρ' x)) : OVRel π (o.map ρ) (o.map ρ') := by
 cases o with
 | none => exact .none
 | some x => exact .some (h x rfl)
theorem r_execOp (ok : POk P) (hf : FnsOk P) {ρ ρ' : Operand -> Value} (hc : ∀ v, ρ (.const v) = v) (hc' : ∀ v, ρ' (.const v) = v) {o : Oper} (hF : Fit P o) (hρ : ∀ x, x ∈ o.op.operands -> VRel π (ρ x) (ρ' x)) : SRel P NRel π (execOp ρ o) (execOp ρ' o) := by
 unfold execOp
 unfold Fit at hF
 cases ho : o.op <;> rw [ho] at hF hρ <;> simp only [] at hF ⊢ <;> try exact hF.elim
 case move x => exact .pure (hρ x (by simp [Op.operands]))
 case assign x => exact .pure (hρ x (by simp [Op.operands]))
 case pick c a b => exact go_asBool (hρ c (by simp [Op.operands])) fun t => .pure (by cases t; exact hρ b (by simp [Op.operands]); exact hρ a (by simp [Op.operands]))
 case alloc t => exact r_value (r_alloc ok hF)
 case box t x => exact r_value (r_box (hρ x (by simp [Op.operands])))
 case build t ps =>
   refine r_value (r_build ok hF ?_)
   rw [Array.toList_map, Array.toList_map]
   exact PsRel.map _ fun x hx => hρ _ (by simp only [Op.operands, List.mem_toArray, List.mem_map]; exact ⟨x, hx, rfl⟩)
 case buildSlice t n ps =>
   refine r_value (r_buildSlice ok hF ?_)
   rw [Array.toList_map, Array.toList_map]
   exact PsRel.map _ fun x hx => hρ _ (by simp only [Op.operands, List.mem_toArray, List.mem_map]; exact ⟨x, hx, rfl⟩)
 case load t a => exact r_value (r_load (hρ a (by simp [Op.operands])))
 case store t a x => exact r_unit (r_store (hρ a (by simp [Op.operands])) (hρ x (by simp [Op.operands])))
 case nilCheck x =>
   have hx := hρ x (by simp [Op.operands])
   revert hx
   generalize ρ x = v
   generalize ρ' x = v'
   intro hx
   cases hx with
   | pnil => exact .dead dead_panic
   | nilIface => exact .dead dead_panic
   | nilFunc => exact .dead dead_panic
   | junk _ => exact .dead dead_panic
   | func h1 h2 h3 h4 h5 =>
     rename_i f f' _ _ _ _
     cases f <;> cases f' <;> first | exact h1.elim | exact .pure (VRel.func h1 h2 h3 h4 h5)
   | bool b => exact .pure (VRel.bool b)
   | int k n => exact .pure (VRel.int k n)
   | string s => exact .pure (VRel.string s)
   | pointer ha => exact .pure (VRel.pointer ha)
   | snil n c => exact .pure (VRel.snil n c)
   | slice n c ha => exact .pure (VRel.slice n c ha)
   | mnil => exact .pure VRel.mnil
   | map h => exact .pure (VRel.map h)
   | iface t h => exact .pure (VRel.iface t h)
   | agg h1 h2 => exact .pure (VRel.agg h1 h2)
   | tuple h1 h2 => exact .pure (VRel.tuple h1 h2)
 case binOp op t x y yt =>
   have hx := hρ x (by simp [Op.operands])
   have hy := hρ y (by simp [Op.operands])
   rcases hF with hF | ⟨hE, hp, rfl⟩ | ⟨hE, hS⟩
   · exact r_value (go_eqGuard hF hx hy (r_binOp ok hF hx hy))
   · rw [hc, hc']
     exact r_value (r_nilEq hE hp hx)
   · exact r_value (go_guardS hE hS hx hy fun π' hle => r_binOpS ok hE hS (hx.mono hle) (hy.mono hle))
 case convert s d x => exact r_value (r_convert hF (hρ x (by simp [Op.operands])))
 case extract t i => exact r_value (r_extract (hρ t (by simp [Op.operands])))
 case range t x => exact r_value (r_range (hρ x (by simp [Op.operands])))
 case entry x => exact r_value (r_entry (hρ x (by simp [Op.operands])))
 case next x b => exact r_value (r_next hF (hρ x (by simp [Op.operands])))
 case unOp op t x => exact r_value (r_unary (hρ x (by simp [Op.operands])))
 case makeMap t r =>
   subst hF
   exact r_value r_makeMap
 case makeFunc fn first captured =>
   obtain ⟨f, rfl, hfn⟩ := hF
   exact r_value (r_makeFunc hfn (VsRel.map _ fun x hx => hρ x (by simp only [Op.operands, Array.mem_append]; exact .inl hx)) (VsRel.map _ fun x hx => hρ x (by simp only [Op.operands, Array.mem_append]; exact .inr hx)))
 case lookup t x k c => exact r_value (r_lookup ok hF (hρ x (by simp [Op.operands])) (hρ k (by simp [Op.operands])))
 case mapUpdate t m k x => exact r_unit (r_mapUpdate ok hF.1 hF.2 (hρ m (by simp [Op.operands])) (hρ k (by simp [Op.operands])) (hρ x (by simp [Op.operands])))
 case makeSlice t l c => exact r_value (r_makeSlice ok hF (hρ l (by simp [Op.operands])) (hρ c (by simp [Op.operands])))
 case slice t x l h m => exact r_value (r_slice (hρ x (by simp [Op.operands])) (OVRel.map fun y e => hρ y (by simp [Op.operands, e])) (OVRel.map fun y e => hρ y (by simp [Op.operands, e])) (OVRel.map fun y e => hρ y (by simp [Op.operands, e])))
 case fieldAddr t x n => exact r_value (r_field (hρ x (by simp [Op.operands])))
 case indexAddr t x i => exact r_value (r_indexAt (hρ x (by simp [Op.operands])) (hρ i (by simp [Op.operands])))
 case index t x i => exact r_value (r_index (hρ x (by simp [Op.operands])) (hρ i (by simp [Op.operands])))
 case call c =>
   have hargs : VsRel π (c.args.map ρ) (c.args.map ρ') := VsRel.map _ fun x hx => hρ x (by simp only [Op.operands, Call.operands, Array.mem_append]; exact .inr hx)
   revert hF
   cases hc : c.callee with
   | value f =>
     intro _
     have hv : VRel π (ρ f) (ρ' f) := hρ f (by simp [Op.operands, Call.operands, hc])
     unfold resolve
     rw [hc]
     dsimp only
     exact r_callValue hf hv hargs
   | invoke r n => exact fun h => h.elim
   | builtin b =>
     intro hF
     unfold resolve
     rw [hc]
     cases b <;> first | exact hF.elim | skip
     all_goals first
       | exact r_value (r_append ok hargs hF.1 hF.2)
       | exact r_value (r_len hargs)
       | exact r_value (r_min hargs)
       | exact r_value (r_copy hargs)
       | exact r_value (r_unsafeString hF hargs)
       | exact r_value (r_max hargs)
       | exact r_value (r_delete ok hF.1 hF.2 hargs)
       | exact r_value (r_clear hF.1 hF.2 hargs)
end
inductive CsRel (π : Ren) : List Deferred -> List Deferred -> Prop
 | nil : CsRel π [] []
 | cons {r r' : Nat} {l l' : List Deferred} : π r = some r' -> CsRel π l l' -> CsRel π ({ target := .collected r, args := #[] } :: l) ({ target := .collected r', args := #[] } :: l')
theorem CsRel.mono {π π' : Ren} (h : π.le π') {l l' : List Deferred} (x : CsRel π l l') : CsRel π' l l' := by
 induction x with
 | nil => exact .nil
 | cons e _ ih => exact .cons (h _ _ e) ih
theorem CsRel.append {π : Ren} {l l' m m' : List Deferred} (x : CsRel π l l') (y : CsRel π m m') : CsRel π (l ++ m) (l' ++ m') := by
 induction x with
 | nil => exact y
 | cons e _ ih => exact .cons e ih
section
variable [Env] {P : Program} {α β γ δ : Type} {Q : Ren -> γ -> δ -> Prop} {π : Ren}
theorem go_setObj' {r r' : Nat} {o o' : Obj} (hr : π r = some r') (ho : ORel π o o') (hc : ∀ c t f, o ≠ .cells c t f) (hs : ¬ Env.sealed r) {f : Unit -> Sem γ} {g : Unit -> Sem δ} (h : SRel P Q π (f ()) (g ())) : SRel P Q π (setObj r o >>= f) (setObj r' o' >>= g) := SRel.setObj hr ho hc hs h
theorem r_enterLoop {fn fn' : FuncId} (hfn : fn = fn') {xs xs' : Array Value} (hx : VsRel π xs xs') {params : Array Tmp} {assign body : Code} (ha : Env.codeOk assign) (hb : Env.codeOk body) {o o' : Option Nat} (ho : OptRel π o o') :
   SRel P (fun π' (x y : Nat × List Deferred) => π' x.1 = some y.1 /\ CsRel π' x.2 y.2) π (Instr.enterLoop fn xs params assign body o) (Instr.enterLoop fn' xs' params assign body o') := by
 subst hfn
 unfold Instr.enterLoop
 cases o with
 | none =>
   cases o' with
   | some _ => exact ho.elim
   | none =>
     refine go_newObj ⟨rfl, .inr rfl⟩ rfl fun r r' hr hs _ => ?_
     have hle : π.le (π.upd r r') := Ren.le_upd hr
     refine go_newObj ⟨rfl, rfl, fun c e => (by cases e), rfl, hx.mono hle, rfl, rfl, rfl, ha, hb, Ren.upd_same _ _ _⟩ rfl fun l l' hl _ _ => ?_
     exact .pure ⟨Ren.upd_same _ _ _, .cons (Ren.le_upd hl _ _ (Ren.upd_same _ _ _)) .nil⟩
 | some a =>
   cases o' with
   | none => exact ho.elim
   | some a' =>
     refine go_asc (go_getLoop ho fun q q' hq => ?_)
     refine go_newObj ⟨rfl, rfl, fun c e => (by cases e), rfl, hx, rfl, rfl, rfl, ha, hb, hq.defers⟩ rfl fun l l' hl _ _ => ?_
     exact .pure ⟨Ren.upd_same _ _ _, .nil⟩
theorem LRel.turn {r r' : Loop} (h : LRel π r r') (s : LoopState) (j : Option Code) (hj : ∀ c, j = some c -> Env.codeOk c) : LRel π { r with state := s, pending := j } { r' with state := s, pending := j } :=
 ⟨rfl, rfl, hj, h.fn, h.tmps, h.params, h.assign, h.body, h.assignOk, h.bodyOk, h.defers⟩
theorem r_beginRound (hns : ∀ b, ¬ Env.sealed b) {l l' : Nat} (hl : π l = some l') : SRel P NRel π (do Instr.beginRound l; pure .skip) (do Instr.beginRound l'; pure .skip) := by
 unfold Instr.beginRound
 refine go_asc (go_getLoop hl fun r r' hr => ?_)
 refine go_asc (go_setObj' hl ?_ (fun _ _ _ e => by cases e) (hns _) ?_)
 · have := hr.turn .busy r.pending hr.pendOk
   rw [<- hr.pending] at *
   exact this
 · rw [<- hr.state]
   cases r.state <;> first | exact .pure trivial | exact go_panic
theorem r_endRound (hns : ∀ b, ¬ Env.sealed b) {l l' : Nat} (hl : π l = some l') {j : Option Code} (hj : ∀ c, j = some c -> Env.codeOk c) : SRel P VQ π (Instr.endRound l j) (Instr.endRound l' j) := by
 unfold Instr.endRound
 refine go_getLoop hl fun r r' hr => ?_
 refine go_setObj' hl ?_ (fun _ _ _ e => by cases e) (hns _) (.pure (.bool _))
 exact hr.turn _ j hj
theorem r_endLoop (hns : ∀ b, ¬ Env.sealed b) {l l' : Nat} (hl : π l = some l') : SRel P (fun _ (j j' : Option Code) => j = j' /\ ∀ c, j = some c -> Env.codeOk c) π (Instr.endLoop l) (Instr.endLoop l') := by
 unfold Instr.endLoop
 refine go_getLoop hl fun r r' hr => ?_
 rw [<- hr.state]
 by_cases hb : (r.state == .busy) = true
 · rw [if_pos hb, if_pos hb]; exact go_panic
 · rw [if_neg hb, if_neg hb]
   refine go_pure (go_setObj' hl ?_ (fun _ _ _ e => by cases e) (hns _) (.pure ⟨hr.pending, hr.pendOk⟩))
   have := hr.turn .exhausted r.pending hr.pendOk
   rw [<- hr.pending] at *
   exact this
theorem r_takeDeferred (hns : ∀ b, ¬ Env.sealed b) {l l' : Nat} (hl : π l = some l') : SRel P (fun _ (x y : List Deferred) => x = [] /\ y = []) π (Instr.takeDeferred l) (Instr.takeDeferred l') := by
 unfold Instr.takeDeferred
 refine go_getObj hl fun o o' ho => ?_
 cases o <;> cases o' <;> simp only [ORel] at ho <;> try exact SRel.halt
 obtain ⟨rfl, h⟩ := ho
 rcases h with rfl | rfl
 · exact SRel.halt
 · refine go_setObj' hl ?_ (fun _ _ _ e => by cases e) (hns _) (.pure ⟨rfl, rfl⟩)
   exact ⟨rfl, .inl rfl⟩
end
class Runs [Env] where
 runs : FuncId -> Prop
 orc : Oper -> Prop
 inc : ∀ f, Env.fnOk f -> runs f
@[reducible] def plainRuns [Env] : Runs := { runs := Env.fnOk, orc := fun _ => False, inc := fun _ h => h }
def Free [Env] [Runs] (g : Goroutine) : Prop := ∀ ops i is k o, g.frame.todo = .inRegion ops (i :: is) :: k -> ops[i]? = some o -> ¬ Runs.orc o
section
variable [Env] [Runs] {P : Program} {α β γ δ : Type} {Q : Ren -> γ -> δ -> Prop} {π : Ren}
def OpdOk : Operand -> Prop
 | .tmp _ => True
 | .const v => Closed v
 | .global _ => False
 | .func f => Env.fnOk f
def OperFit (P : Program) (o : Oper) : Prop := Fit P o /\ ∀ x, x ∈ o.op.operands -> OpdOk x
def OpsFit (P : Program) (ops : Array Oper) : Prop := ∀ (i : Nat) o, ops[i]? = some o -> Runs.orc o ∨ OperFit P o
def CodeFit (P : Program) : Code -> Prop
 | .region _ ops _ => OpsFit P ops
 | .seq a b => CodeFit P a /\ CodeFit P b
 | .cond c a b => OpdOk c /\ CodeFit P a /\ CodeFit P b
 | .block _ b | .loop b | .scope b => CodeFit P b
 | .rangeFunc f _ a b => OpdOk f /\ Env.codeOk a /\ Env.codeOk b
 | .goto _ => False
 | _ => True
def Rf : Prop := (∀ b, ¬ Env.sealed b) /\ Env.codeOk .ret /\ ∀ id, Env.codeOk (.exit id)
def ItemFit (P : Program) : Item -> Prop
 | .code c => CodeFit P c
 | .inBlock _ => True
 | .inLoop b | .inScope b => CodeFit P b
 | .inRegion ops _ => OpsFit P ops
 | .inRangeFunc _ | .endRangeFunc _ | .beginRound => Rf
 | _ => False
def BodiesOk (P : Program) : Prop := (∀ f, Runs.runs f -> ∃ fn c, P.funcs[f]? = some fn /\ fn.body = some c /\ CodeFit P c) /\ ∀ c, Env.codeOk c -> CodeFit P c /\ Rf
def rnI (π : Ren) : Item -> Item
 | .inRangeFunc l => .inRangeFunc ((π l).getD 0)
 | .endRangeFunc l => .endRangeFunc ((π l).getD 0)
 | x => x
def LoopOk (π : Ren) : Item -> Prop
 | .inRangeFunc l | .endRangeFunc l => ∃ l', π l = some l'
 | _ => True
omit [Env] [Runs] in
theorem LoopOk.mono {π π' : Ren} (h : π.le π') {x : Item} (k : LoopOk π x) : LoopOk π' x := by
 cases x <;> first | exact trivial | exact k.imp fun _ e => h _ _ e
omit [Env] [Runs] in
theorem rnI_mono {π π' : Ren} (h : π.le π') {x : Item} (k : LoopOk π x) : rnI π' x = rnI π x := by
 cases x <;> first | rfl | (obtain ⟨l', e⟩ := k; simp only [rnI, e, h _ _ e])
omit [Env] [Runs] in
theorem map_mono {π π' : Ren} (h : π.le π') : ∀ {k : List Item}, (∀ x, x ∈ k -> LoopOk π x) -> k.map (rnI π') = k.map (rnI π)
 | [], _ => rfl
 | x :: k, hk => by rw [List.map_cons, List.map_cons, rnI_mono h (hk x List.mem_cons_self), map_mono h fun y hy => hk y (List.mem_cons_of_mem _ hy)]
structure FrRel (P : Program) (π : Ren) (fr fr' : Frame) : Prop where
 fn : fr.fn = fr'.fn
 fnOk : fr.roundOf = none -> ∃ fn, P.funcs[fr.fn]? = some fn
 tmps : VsRel π fr.tmps fr'.tmps
 todo : fr'.todo = fr.todo.map (rnI π)
 dom : ∀ x, x ∈ fr.todo -> LoopOk π x
 fit : ∀ x, x ∈ fr.todo -> ItemFit P x
 defers : CsRel π fr.defers fr'.defers
 mode : fr.mode = fr'.mode
 live : fr.mode = .run ∨ (fr.mode = .returning /\ fr.roundOf = none)
 kind : fr.kind = .normal
 kind' : fr'.kind = .normal
 round : OptRel π fr.roundOf fr'.roundOf
 ns : fr.defers ≠ [] ∨ fr.roundOf ≠ none -> Rf
omit [Runs] in
theorem undef_rel (π : Ren) : VRel π undef undef := .tuple rfl fun i hi => by simp at hi
theorem FrRel.mono {π π' : Ren} (h : π.le π') {fr fr' : Frame} (x : FrRel P π fr fr') : FrRel P π' fr fr' :=
 { x with tmps := x.tmps.mono h, todo := by rw [x.todo, map_mono h x.dom], dom := fun y hy => (x.dom y hy).mono h, defers := x.defers.mono h, round := x.round.mono h }
theorem FrRel.eval {fr fr' : Frame} (h : FrRel P π fr fr') {x : Operand} (hx : OpdOk x) : VRel π (fr.eval x) (fr'.eval x) := by
 cases x with
 | tmp t => exact h.tmps.getD t (undef_rel π)
 | const v => exact hx π
 | global g => exact hx.elim
 | func f => exact .func ⟨rfl, hx⟩ rfl (fun i hi => by simp at hi) rfl (fun i hi => by simp at hi)
theorem FrRel.to {f f' : Frame} (h : FrRel P π f f') (t : List Item) (hd : ∀ x, x ∈ t -> LoopOk π x) (ht : ∀ x, x ∈ t -> ItemFit P x) : FrRel P π { f with todo := t } { f' with todo := t.map (rnI π) } :=
 ⟨h.fn, h.fnOk, h.tmps, rfl, hd, ht, h.defers, h.mode, h.live, h.kind, h.kind', h.round, h.ns⟩
theorem FrRel.finish {fr fr' : Frame} (h : FrRel P π fr fr') {v v' : Value} (hv : VRel π v v') : FrRel P π (fr.finish v) (fr'.finish v') := by
 have hf := h.fit
 have hd := h.dom
 cases ht : fr.todo with
 | nil =>
   have ht' : fr'.todo = [] := by rw [h.todo, ht]; rfl
   have e1 : fr.finish v = fr := by unfold Frame.finish; rw [ht]
   have e2 : fr'.finish v' = fr' := by unfold Frame.finish; rw [ht']
   rw [e1, e2]; exact h
 | cons x k =>
   have ht' : fr'.todo = rnI π x :: k.map (rnI π) := by rw [h.todo, ht]; rfl
   rw [ht] at hf hd
   have hk : ∀ y, y ∈ k -> ItemFit P y := fun y hy => hf y (List.mem_cons_of_mem _ hy)
   have hdk : ∀ y, y ∈ k -> LoopOk π y := fun y hy => hd y (List.mem_cons_of_mem _ hy)
   have same : fr.finish v = fr -> fr'.finish v' = fr' -> FrRel P π (fr.finish v) (fr'.finish v') := fun e1 e2 => by rw [e1, e2]; exact h
   cases x with
   | inRegion ops is =>
     cases is with
     | nil => exact same (by unfold Frame.finish; rw [ht]) (by unfold Frame.finish; rw [ht']; rfl)
     | cons i rest =>
       have e1 : fr.finish v = { fr with tmps := (match (ops[i]?).bind (·.dst) with | some d => fr.tmps.setIfInBounds d v | none => fr.tmps), todo := .inRegion ops rest :: k } := by unfold Frame.finish; rw [ht]; rfl
       have e2 : fr'.finish v' = { fr' with tmps := (match (ops[i]?).bind (·.dst) with | some d => fr'.tmps.setIfInBounds d v' | none => fr'.tmps), todo := .inRegion ops rest :: k.map (rnI π) } := by unfold Frame.finish; rw [ht']; rfl
       rw [e1, e2]
       refine ⟨h.fn, h.fnOk, ?_, rfl, fun x hx => ?_, fun x hx => ?_, h.defers, h.mode, h.live, h.kind, h.kind', h.round, h.ns⟩
       · simp only []
         cases (ops[i]?).bind (·.dst) with
         | none => exact h.tmps
         | some d => exact h.tmps.set _ hv
       · rcases List.mem_cons.1 hx with rfl | hx
         · exact trivial
         · exact hdk x hx
       · rcases List.mem_cons.1 hx with rfl | hx
         · exact hf (.inRegion ops (i :: rest)) List.mem_cons_self
         · exact hk x hx
   | inRangeFunc l =>
     have e1 : fr.finish v = { fr with todo := .endRangeFunc l :: k } := by unfold Frame.finish; rw [ht]
     have e2 : fr'.finish v' = { fr' with todo := (Item.endRangeFunc l :: k).map (rnI π) } := by unfold Frame.finish; rw [ht']; rfl
     rw [e1, e2]
     refine h.to _ (fun x hx => ?_) fun x hx => ?_
     · rcases List.mem_cons.1 hx with rfl | hx
       · exact hd (.inRangeFunc l) List.mem_cons_self
       · exact hdk x hx
     · rcases List.mem_cons.1 hx with rfl | hx
       · exact hf (.inRangeFunc l) List.mem_cons_self
       · exact hk x hx
   | beginRound =>
     have e1 : fr.finish v = { fr with todo := k } := by unfold Frame.finish; rw [ht]
     have e2 : fr'.finish v' = { fr' with todo := k.map (rnI π) } := by unfold Frame.finish; rw [ht']; rfl
     rw [e1, e2]
     exact h.to _ hdk hk
   | call _ _ _ _ => exact (hf _ List.mem_cons_self).elim
   | extern _ _ => exact (hf _ List.mem_cons_self).elim
   | _ => exact same (by unfold Frame.finish; rw [ht]) (by unfold Frame.finish; rw [ht']; rfl)
theorem FrRel.enter (hb : BodiesOk P) {f : FuncId} (h : Runs.runs f) {xs xs' : Array Value} (hx : VsRel π xs xs') : FrRel P π (Frame.enter P f xs .normal) (Frame.enter P f xs' .normal) := by
 obtain ⟨fn, c, h1, h2, h3⟩ := hb.1 f h
 have ht : ∀ ys, (Frame.enter P f ys .normal).todo = [.code c] := fun ys => by
   unfold Frame.enter
   simp only [h1, h2, Option.bind_some, Option.getD_some]
 refine ⟨rfl, fun _ => ⟨fn, h1⟩, ?_, by rw [ht, ht]; rfl, fun x hx' => ?_, fun x hx' => ?_, .nil, rfl, .inl rfl, rfl, rfl, trivial, fun h => ?_⟩
 · unfold Frame.enter
   simp only []
   rw [<- hx.1]
   exact hx.append (.replicate _ (undef_rel π))
 · rw [ht, List.mem_singleton] at hx'; subst hx'; exact trivial
 · rw [ht, List.mem_singleton] at hx'; subst hx'; exact h3
 · rcases h with h | h <;> exact absurd rfl h
theorem FrRel.roundF (hb : BodiesOk P) {l l' : Nat} (hl : π l = some l') {f : FuncId} {xs xs' : Array Value} (hx : VsRel π xs xs') {a b : Code} (ha : Env.codeOk a) (hbd : Env.codeOk b) : FrRel P π (Frame.round l f xs a b .normal) (Frame.round l' f xs' a b .normal) := by
 refine ⟨rfl, fun h => (by cases h), hx, rfl, fun x hx' => ?_, fun x hx' => ?_, .nil, rfl, .inl rfl, rfl, rfl, hl, fun _ => (hb.2 a ha).2⟩
 · have hx' : x ∈ [Item.code a, .beginRound, .code b] := hx'
   simp only [List.mem_cons, List.not_mem_nil, or_false] at hx'
   rcases hx' with rfl | rfl | rfl <;> exact trivial
 · have hx' : x ∈ [Item.code a, .beginRound, .code b] := hx'
   simp only [List.mem_cons, List.not_mem_nil, or_false] at hx'
   rcases hx' with rfl | rfl | rfl
   · exact (hb.2 a ha).1
   · exact (hb.2 a ha).2
   · exact (hb.2 b hbd).1
omit [Runs] in
theorem go_asAddr {v v' : Value} (hv : VRel π v v') {f : Addr -> Sem γ} {g : Addr -> Sem δ} (h : ∀ a a', ARel π a a' -> SRel P Q π (f a) (g a')) : SRel P Q π (asAddr v >>= f) (asAddr v' >>= g) := by
 cases hv with
 | pointer ha => exact h _ _ ha
 | pnil => exact .dead (DeadS.left (show DeadS P (runtimePanic .nilDeref) from dead_panic))
 | _ => exact go_stuck
omit [Runs] in
theorem go_mapM {ι : Type} {F F' : ι -> Sem Value} (hF : ∀ {x : ι} {k : Value -> Sem γ} {k' : Value -> Sem δ}, (∀ v v', VRel π v v' -> SRel P Q π (k v) (k' v')) -> SRel P Q π (F x >>= k) (F' x >>= k')) : ∀ (l : List ι) {f : List Value -> Sem γ} {g : List Value -> Sem δ}, (∀ r r', LsRel π r r' -> SRel P Q π (f r) (g r')) -> SRel P Q π (l.mapM F >>= f) (l.mapM F' >>= g)
 | [], f, g, h => by rw [List.mapM_nil, List.mapM_nil]; exact h _ _ .nil
 | x :: l, f, g, h => by
   rw [List.mapM_cons, List.mapM_cons]
   refine go_asc (hF fun v v' hv => go_asc ?_)
   exact go_mapM (F := F) (F' := F') (fun hk => hF hk) l fun r r' hr => h _ _ (.cons hv hr)
omit [Runs] in
theorem LsRel.toArray {l l' : List Value} (h : LsRel π l l') : VsRel π l.toArray l'.toArray := by
 induction h with
 | nil => exact VsRel.empty π
 | cons hv _ ih =>
   have := (VsRel.one hv).append ih
   simpa using this
omit [Runs] in
theorem r_results {fn : Func} {xs xs' : Array Value} (hx : VsRel π xs xs') : SRel P VQ π (results fn xs) (results fn xs') := by
 unfold results
 rw [Array.mapM_eq_mapM_toList, Array.mapM_eq_mapM_toList, map_eq_pure_bind, map_eq_pure_bind]
 refine go_asc (go_mapM (fun {r k k'} hk => ?_) _ fun r r' hr => ?_)
 · cases r with
   | tmp t => exact hk _ _ (hx.getD t (undef_rel π))
   | cell a t => exact go_asc (go_asAddr (hx.getD a (undef_rel π)) fun b b' hb => go_loadVar hb hk)
 · have hv := hr.toArray
   show SRel P VQ π (pure _) (pure _)
   refine .pure ?_
   by_cases h1 : r.toArray.size = 1
   · have h1' : r'.toArray.size = 1 := by rw [<- hv.1]; exact h1
     rw [dif_pos h1, dif_pos h1']
     have := hv.2 0 (by omega)
     simpa [Array.getD, h1, h1'] using this
   · have h1' : ¬ r'.toArray.size = 1 := by rw [<- hv.1]; exact h1
     rw [dif_neg h1, dif_neg h1']
     exact .tuple hv.1 hv.2
end
section
variable [Env] [Runs] {P : Program} {π : Ren}
inductive FsRel (P : Program) (π : Ren) (bs bs' : List Frame) : List Frame -> List Frame -> Prop
 | base : FsRel P π bs bs' bs bs'
 | cons {f f' : Frame} {fs fs' : List Frame} : FrRel P π f f' -> FsRel P π bs bs' fs fs' -> FsRel P π bs bs' (f :: fs) (f' :: fs')
theorem FsRel.mono {π π' : Ren} (h : π.le π') {bs bs' fs fs' : List Frame} (x : FsRel P π bs bs' fs fs') : FsRel P π' bs bs' fs fs' := by
 induction x with
 | base => exact .base
 | cons a _ ih => exact .cons (a.mono h) ih
def live (f : Frame) (cs : List Frame) : Goroutine := { frame := f, callers := cs, status := .running, dying := none }
def Mk (u : World) (ds : List Deferred) : Prop := ∀ d, d ∈ ds -> ∃ r, d = { target := .collected r, args := #[] } /\ ∀ l : List Deferred, u.heap[r]? = some (Obj.deferred (some l)) -> l = []
omit [Env] [Runs] in
theorem CsRel.mk {ds ds' : List Deferred} (h : CsRel π ds ds') {u : World} (k : Idle π u) : Mk u ds := by
 induction h with
 | nil => exact fun d hd => nomatch hd
 | @cons r r' l l' e _ ih =>
   intro d hd
   rcases List.mem_cons.1 hd with rfl | hd
   · exact ⟨r, rfl, k r r' e⟩
   · exact ih d hd
def Lost (bs : List Frame) (g : Goroutine) (u : World) : Prop :=
 ∃ f cs ch, g = live f (cs ++ bs) /\ f.mode = .panicking ch /\ Mk u f.defers /\ ∀ c, c ∈ cs -> Mk u c.defers
def GRel (P : Program) (π : Ren) (bs bs' : List Frame) (g g' : Goroutine) : Prop :=
 ∃ f f' cs cs', g = live f cs /\ g' = live f' cs' /\ FrRel P π f f' /\ FsRel P π bs bs' cs cs'
def Back (π : Ren) (bs bs' : List Frame) (g g' : Goroutine) : Prop :=
 ∃ b l b' l' v v', bs = b :: l /\ bs' = b' :: l' /\ VRel π v v' /\ g = live (b.finish v) l /\ g' = live (b'.finish v') l'
theorem FsRel.calm {bs bs' fs fs' : List Frame} (x : FsRel P π bs bs' fs fs') : ∃ cs, fs = cs ++ bs /\ ∀ c, c ∈ cs -> ∃ ds', CsRel π c.defers ds' := by
 induction x with
 | base => exact ⟨[], rfl, fun c h => by cases h⟩
 | @cons f f' fs fs' hf _ ih =>
   obtain ⟨cs, e, h⟩ := ih
   refine ⟨f :: cs, by rw [e]; rfl, fun c hc => ?_⟩
   rcases List.mem_cons.1 hc with rfl | hc
   · exact ⟨_, hf.defers⟩
   · exact h c hc
def Out2 (P : Program) (π : Ren) (bs bs' : List Frame) (w : World) (s s' : GStep) : Prop :=
 match s with
 | .go g1 u1 _ => Lost bs g1 u1 ∨ ∃ g1' w1 π1 gs es, s' = .go g1' w1 es /\ (∀ e, e ∈ es -> e ∈ gs) /\ (GRel P π1 bs bs' g1 g1' ∨ Back π1 bs bs' g1 g1') /\ WRel π1 u1 w1 /\ Tapes u1 w1 /\ Eff π π1 w w1 gs
 | .ended _ _ _ => True
 | _ => False
def Out (P : Program) (m : Bool) (π : Ren) (bs bs' : List Frame) (g' : Goroutine) (w : World) (s : GStep) : Prop := Out2 P π bs bs' w s (stepG P m g' w)
theorem Out2.after {bs bs' : List Frame} {w : World} {s s' : GStep} (es : Array Event) (h : Out2 P π bs bs' w s s') : Out2 P π bs bs' w (GStep.after es s) s' := by
 cases s <;> exact h
theorem Out2.seq {bs bs' : List Frame} {w w0 : World} {π0 : Ren} {gs0 : List Event} {s s' : GStep} (es es' : Array Event) (E : Eff π π0 w w0 gs0) (hes : ∀ e, e ∈ es' -> e ∈ gs0) (h : Out2 P π0 bs bs' w0 s s') : Out2 P π bs bs' w (GStep.after es s) (GStep.after es' s') := by
 cases s with
 | go g1 u1 es1 =>
   rcases h with h | ⟨g1', w1, π1, gs, es2, rfl, h2, h3, h4, h5, h6⟩
   · exact .inl h
   · refine .inr ⟨g1', w1, π1, gs0 ++ gs, es' ++ es2, rfl, fun e he => ?_, h3, h4, h5, E.trans h6⟩
     rcases Array.mem_append.1 he with he | he
     · exact List.mem_append_left _ (hes e he)
     · exact List.mem_append_right _ (h2 e he)
 | ended _ _ _ => exact trivial
 | _ => exact h.elim
theorem Out.after {m : Bool} {bs bs' : List Frame} {g' : Goroutine} {w : World} {s : GStep} (es : Array Event) (h : Out P m π bs bs' g' w s) : Out P m π bs bs' g' w (GStep.after es s) := Out2.after es h
theorem apply_rel2 (hb : BodiesOk P) {l : Bool} {bs bs' : List Frame} {f f' : Frame} {cs cs' : List Frame} {u w : World} {s s' : Sem Next} (hf : FrRel P π f f') (hr : f.mode = .run) (hc : FsRel P π bs bs' cs cs') (W : WRel π u w) (T : Tapes u w) (hs : SRel P NRel π s s') :
   Out2 P π bs bs' w (stepG.apply P l f cs none s u) (stepG.apply P true f' cs' none s' w) := by
 have hR := hs.run #[] #[] W T (r := s.run P u) (es' := (s.runT P u #[]).2) (by rw [<- Sem.runT_fst (es := #[])])
 have hk : ∀ d r s k, f.todo ≠ .call d true r s :: k := fun d r s k h => by
   have := hf.fit (.call d true r s) (by rw [h]; exact List.mem_cons_self)
   exact this
 have hk' : ∀ d r s k, f'.todo ≠ .call d true r s :: k := fun d r s k h => by
   rw [hf.todo] at h
   cases ht : f.todo with
   | nil => rw [ht] at h; cases h
   | cons x k0 =>
     rw [ht, List.map_cons, List.cons.injEq] at h
     have hx := hf.fit x (by rw [ht]; exact List.mem_cons_self)
     cases x <;> first | exact hx.elim | cases h.1
 have e1 : (if l then s.runT P u #[] else (s.run P u, #[])) = (s.run P u, if l then s.events P u #[] else #[]) := by cases l <;> simp
 unfold stepG.apply
 dsimp only
 rw [e1]
 generalize hL : (if l then s.events P u #[] else #[]) = ls
 cases hx : s.run P u with
 | halt h u' =>
   rw [hx] at hR
   refine Out2.after _ ?_
   obtain ⟨hm, hidle⟩ : Mild h /\ Idle π u' := hR
   cases h with
   | panic v =>
     obtain ⟨ds, e, hds⟩ := hc.calm
     refine .inl ⟨f.raise [{ v, recovered := false }], ds, [{ v, recovered := false }], by rw [<- e]; rfl, ?_, ?_, fun c hc => let ⟨_, h⟩ := hds c hc; h.mk hidle⟩
     · unfold Frame.raise; rw [hr]
     · unfold Frame.raise; rw [hr]; exact hf.defers.mk hidle
   | stuck s => exact trivial
   | unsupported x => cases x <;> first | exact trivial | exact hm.elim
   | _ => exact hm.elim
 | ok n u' =>
   rw [hx] at hR
   obtain ⟨⟨n', w1, π1, gs, h1, h2, h3, h4, h5⟩, -⟩ := hR
   refine Out2.after _ ?_
   have hf1 := hf.mono h5.le
   have hc1 := hc.mono h5.le
   simp only [if_true, h1, hf.kind']
   cases n <;> cases n' <;> simp only [NRel] at h2
   · -- a value
     rename_i v v'
     refine .inr ⟨live (f'.finish v') cs', w1, π1, gs, seen P f'.fn gs.toArray, ?_, fun e he => by simpa using Conc.mem_seen he, .inl ⟨_, _, _, _, rfl, rfl, hf1.finish h2, hc1⟩, h3, h4, h5⟩
     simp [GStep.after, live]
   · refine .inr ⟨live (f'.finish undef) cs', w1, π1, gs, seen P f'.fn gs.toArray, ?_, fun e he => by simpa using Conc.mem_seen he, .inl ⟨_, _, _, _, rfl, rfl, hf1.finish (undef_rel _), hc1⟩, h3, h4, h5⟩
     simp [GStep.after, live]
   · rename_i fn xs fn' xs'
     obtain ⟨rfl, hfn, hxs⟩ := h2
     have key : ∀ K K', K = CallKind.normal -> K' = CallKind.normal -> Out2 P π bs bs' w (.go (live (Frame.enter P fn xs K) (f :: cs)) u') (GStep.after (seen P f'.fn gs.toArray) (.go (live (Frame.enter P fn xs' K') (f' :: cs')) w1)) := by
       rintro K K' rfl rfl
       exact .inr ⟨live (Frame.enter P fn xs' .normal) (f' :: cs'), w1, π1, gs, seen P f'.fn gs.toArray, by simp [GStep.after], fun e he => by simpa using Conc.mem_seen he, .inl ⟨_, _, _, _, rfl, rfl, FrRel.enter hb (Runs.inc _ hfn) hxs, .cons hf1 hc1⟩, h3, h4, h5⟩
     have key2 := key (match f.todo with | .call _ true _ _ :: _ => .wrapped | _ => .normal) (match f'.todo with | .call _ true _ _ :: _ => .wrapped | _ => .normal)
       (by split; exact absurd (by assumption) (hk _ _ _ _); rfl) (by split; exact absurd (by assumption) (hk' _ _ _ _); rfl)
     simpa [live] using key2
   · rename_i l1 fn xs a b l1' fn' xs' a' b'
     obtain ⟨hl1, rfl, hxs, rfl, rfl, ha, hbd⟩ := h2
     refine .inr ⟨live (Frame.round l1' fn xs' a b .normal) (f' :: cs'), w1, π1, gs, seen P f'.fn gs.toArray, ?_, fun e he => by simpa using Conc.mem_seen he, .inl ⟨_, _, _, _, rfl, rfl, FrRel.roundF hb hl1 hxs ha hbd, .cons hf1 hc1⟩, h3, h4, h5⟩
     simp [GStep.after, live]
theorem apply_rel (hb : BodiesOk P) {m l : Bool} {bs bs' : List Frame} {f f' : Frame} {cs cs' : List Frame} {u w : World} {s s' : Sem Next} (hf : FrRel P π f f') (hr : f.mode = .run) (hc : FsRel P π bs bs' cs cs') (W : WRel π u w) (T : Tapes u w) (hs : SRel P NRel π s s')
   (hstep : stepG P m (live f' cs') w = stepG.apply P true f' cs' none s' w) : Out P m π bs bs' (live f' cs') w (stepG.apply P l f cs none s u) := by
 unfold Out
 rw [hstep]
 exact apply_rel2 hb hf hr hc W T hs
end
section
variable [Env] [Runs] {P : Program} {π : Ren}
theorem FrRel.leave {f f' : Frame} (h : FrRel P π f f') (hro : f.roundOf = none) : FrRel P π { f with mode := .returning } { f' with mode := .returning } :=
 ⟨h.fn, h.fnOk, h.tmps, h.todo, h.dom, h.fit, h.defers, rfl, .inr ⟨rfl, hro⟩, h.kind, h.kind', h.round, h.ns⟩
theorem out_go {m : Bool} {bs bs' : List Frame} {f1 f' f1' : Frame} {cs cs' : List Frame} {u w : World} (hF : FrRel P π f1 f1') (hc : FsRel P π bs bs' cs cs') (W : WRel π u w) (T : Tapes u w) (hs : stepG P m (live f' cs') w = .go (live f1' cs') w) :
   Out P m π bs bs' (live f' cs') w (.go (live f1 cs) u) :=
 .inr ⟨_, w, π, [], #[], hs, fun e he => by simp at he, .inl ⟨_, _, _, _, rfl, rfl, hF, hc⟩, W, T, .refl π w⟩
omit [Env] [Runs] in
theorem stepG_run {m l : Bool} {f : Frame} {cs : List Frame} {u : World} (h : f.mode = .run) : stepG P m (live f cs) u l = stepG.exec P m l f cs none u := by
 unfold stepG live
 simp only [h]
omit [Runs] in
theorem yielded_rel {ops : Array Oper} {xs xs' : Array Value} (h : VsRel π xs xs') : yielded ops xs = yielded ops xs' := by
 funext j
 unfold yielded
 cases (ops[j]?).bind (·.dst) with
 | none => rfl
 | some d =>
   simp only [Option.bind_some]
   rcases h.get? d with ⟨e, e'⟩ | ⟨v, v', e, e', hv⟩
   · rw [e, e']
   · rw [e, e']
     cases hv with
     | junk k => (cases v' <;> first | rfl | exact k.elim)
     | _ => rfl
omit [Env] [Runs] in
theorem exitTo_sub {id : Nat} : ∀ {k t : List Item}, exitTo id k = some t -> ∀ x, x ∈ t -> x ∈ k
 | [], t, e => by simp [exitTo] at e
 | y :: k, t, e => fun x hx => by
   cases y
   case inBlock id' =>
     simp only [exitTo] at e
     split at e
     · cases e; exact List.mem_cons_of_mem _ hx
     · exact List.mem_cons_of_mem _ (exitTo_sub e x hx)
   all_goals (simp only [exitTo] at e; exact List.mem_cons_of_mem _ (exitTo_sub e x hx))
omit [Env] [Runs] in
theorem exitTo_map {id : Nat} : ∀ {k : List Item}, exitTo id (k.map (rnI π)) = (exitTo id k).map (·.map (rnI π))
 | [] => rfl
 | y :: k => by
   cases y
   case inBlock id' =>
     simp only [List.map_cons, rnI, exitTo]
     split
     · rfl
     · exact exitTo_map
   all_goals (simp only [List.map_cons, rnI, exitTo]; exact exitTo_map)
omit [Env] [Runs] in
theorem round_none {o o' : Option Nat} (h : OptRel π o o') (e : o = none) : o' = none := by
 subst e
 cases o' with
 | none => rfl
 | some _ => exact h.elim
def roundStep (P : Program) (mm : Bool) (ff : Frame) (ccs : List Frame) (ww : World) (l : Nat) (j : Option Code) : GStep :=
 GStep.after (seen P ff.fn ((Instr.endRound l j).runT P ww #[]).2) (match ((Instr.endRound l j).runT P ww #[]).1 with
   | .ok v w => doReturn P mm ff ccs none v w
   | .halt _ w => .ended (.stuck "range over a function: no such loop" (ff.pos P)) w)
theorem round_rel {m0 m : Bool} {bs bs' : List Frame} {f f' : Frame} {cs cs' : List Frame} {u w : World} (h : FrRel P π f f') (hc : FsRel P π bs bs' cs cs') (hne : cs ≠ []) (hne' : bs' ≠ [] ∨ bs = []) (W : WRel π u w) (T : Tapes u w) {l l' : Nat} (hl : f.roundOf = some l) (hl' : π l = some l') {j : Option Code} (hj : j = none ∨ j = some .ret ∨ ∃ id, j = some (.exit id)) :
   Out2 P π bs bs' w (roundStep P m0 f cs u l j) (roundStep P m f' cs' w l' j) := by
 have hRf : Rf := h.ns (.inr (by rw [hl]; simp))
 have hjc : ∀ c, j = some c -> Env.codeOk c := fun c e => by
   rcases hj with rfl | rfl | ⟨id, rfl⟩ <;> cases e
   · exact hRf.2.1
   · exact hRf.2.2 id
 have hR := (r_endRound (P := P) (π := π) hRf.1 hl' hjc).run #[] #[] W T (r := (Instr.endRound l j).run P u) (es' := ((Instr.endRound l j).runT P u #[]).2) (by rw [<- Sem.runT_fst (es := #[])])
 unfold roundStep
 rw [Sem.runT_fst]
 refine Out2.after _ ?_
 cases hx : (Instr.endRound l j).run P u with
 | halt hh u' => exact trivial
 | ok v u1 =>
   rw [hx] at hR
   obtain ⟨⟨v', w1, π1, gs, r1, r2, r3, r4, r5⟩, -⟩ := hR
   rw [r1]
   cases hc with
   | base =>
     cases bs with
     | nil => exact absurd rfl hne
     | cons b lr =>
       cases bs' with
       | nil => rcases hne' with h | h <;> first | exact absurd rfl h | cases h
       | cons b' lr' =>
         simp only [doReturn, h.kind]
         refine .inr ⟨live (b'.finish v') lr', w1, π1, gs, seen P f'.fn gs.toArray, ?_, fun e he => by simpa using Conc.mem_seen he, .inr ⟨b, lr, b', lr', v, v', rfl, rfl, r2, rfl, rfl⟩, r3, r4, r5⟩
         simp [h.kind', GStep.after, live]
   | @cons c c' fs fs' hcc hfs =>
     simp only [doReturn, h.kind]
     refine .inr ⟨live (c'.finish v') fs', w1, π1, gs, seen P f'.fn gs.toArray, ?_, fun e he => by simpa using Conc.mem_seen he, .inl ⟨_, _, _, _, rfl, rfl, (hcc.mono r5.le).finish r2, hfs.mono r5.le⟩, r3, r4, r5⟩
     simp [h.kind', GStep.after, live]
theorem exec_rel (ok : POk P) (hf : FnsOk P) (hb : BodiesOk P) {m0 m l : Bool} {bs bs' : List Frame} {f f' : Frame} {cs cs' : List Frame} {u w : World} (h : FrRel P π f f') (hno : Free (live f cs)) (hr : f.mode = .run) (hc : FsRel P π bs bs' cs cs') (hcs : f.roundOf ≠ none -> cs ≠ []) (hbs : bs' ≠ [] ∨ bs = []) (W : WRel π u w) (T : Tapes u w) :
   Out P m π bs bs' (live f' cs') w (stepG P m0 (live f cs) u l) := by
 have hr' : f'.mode = .run := h.mode ▸ hr
 have hR : stepG P m (live f' cs') w = stepG.exec P m true f' cs' none w := stepG_run hr'
 rw [stepG_run hr]
 have move : ∀ t, (∀ x, x ∈ t -> LoopOk π x) -> (∀ x, x ∈ t -> ItemFit P x) -> stepG.exec P m true f' cs' none w = .go (live { f' with todo := t.map (rnI π) } cs') w -> Out P m π bs bs' (live f' cs') w (.go (live { f with todo := t } cs) u) := fun t hd ht e => out_go (h.to t hd ht) hc W T (hR.trans e)
 have hend : f.roundOf = none -> stepG.exec P m true f' cs' none w = .go (live { f' with mode := .returning } cs') w -> Out P m π bs bs' (live f' cs') w (.go (live { f with mode := .returning } cs) u) := fun hro e => out_go (h.leave hro) hc W T (hR.trans e)
 have hfit := h.fit
 have hdom := h.dom
 cases ht : f.todo with
 | nil =>
   have ht' : f'.todo = [] := by rw [h.todo, ht]; rfl
   cases hro : f.roundOf with
   | none =>
     have hro' := round_none h.round hro
     have e : stepG.exec P m0 l f cs none u = .go (live { f with mode := .returning } cs) u := by
       unfold stepG.exec; simp only [ht, hro]; rfl
     rw [e]
     exact hend hro (by unfold stepG.exec; simp only [ht', hro']; rfl)
   | some q =>
     have hround := h.round
     rw [hro] at hround
     cases hro' : f'.roundOf with
     | none => rw [hro'] at hround; exact hround.elim
     | some q' =>
       rw [hro'] at hround
       have e : ∀ mm ll ff ccs ww qq, ff.todo = [] -> ff.roundOf = some qq -> stepG.exec P mm ll ff ccs none ww = roundStep P mm ff ccs ww qq none := fun _ _ _ _ _ _ e e2 => by
         unfold stepG.exec roundStep; simp only [e, e2]; rfl
       unfold Out
       rw [hR, e _ _ _ _ _ _ ht hro, e _ _ _ _ _ _ ht' hro']
       exact round_rel h hc (hcs (by rw [hro]; simp)) hbs W T hro hround (.inl rfl)
 | cons x k =>
   have ht' : f'.todo = rnI π x :: k.map (rnI π) := by rw [h.todo, ht]; rfl
   rw [ht] at hfit hdom
   have hx := hfit x List.mem_cons_self
   have hk : ∀ y, y ∈ k -> ItemFit P y := fun y hy => hfit y (List.mem_cons_of_mem _ hy)
   have hdk : ∀ y, y ∈ k -> LoopOk π y := fun y hy => hdom y (List.mem_cons_of_mem _ hy)
   have hk1 : ∀ a, ItemFit P a -> ∀ y, y ∈ a :: k -> ItemFit P y := fun a ha y hy => (List.mem_cons.1 hy).elim (fun e => e ▸ ha) (hk y)
   have hk2 : ∀ a b, ItemFit P a -> ItemFit P b -> ∀ y, y ∈ a :: b :: k -> ItemFit P y := fun a b ha hb y hy => (List.mem_cons.1 hy).elim (fun e => e ▸ ha) (hk1 b hb y)
   have hd1 : ∀ a, LoopOk π a -> ∀ y, y ∈ a :: k -> LoopOk π y := fun a ha y hy => (List.mem_cons.1 hy).elim (fun e => e ▸ ha) (hdk y)
   have hd2 : ∀ a b, LoopOk π a -> LoopOk π b -> ∀ y, y ∈ a :: b :: k -> LoopOk π y := fun a b ha hb y hy => (List.mem_cons.1 hy).elim (fun e => e ▸ ha) (hd1 b hb y)
   have hrnd : ∀ j, (j = some .ret ∨ ∃ id, j = some (.exit id)) -> (∀ mm ll ff ccs ww qq kk, ff.todo = rnI π x :: kk.map (rnI π) ∨ ff.todo = x :: kk -> kk = k -> ff.roundOf = some qq -> stepG.exec P mm ll ff ccs none ww = roundStep P mm ff ccs ww qq j) -> f.roundOf ≠ none -> Out P m π bs bs' (live f' cs') w (stepG.exec P m0 l f cs none u) := fun j hj e hro => by
     cases hro2 : f.roundOf with
     | none => exact absurd hro2 hro
     | some q =>
       have hround := h.round
       rw [hro2] at hround
       cases hro' : f'.roundOf with
       | none => rw [hro'] at hround; exact hround.elim
       | some q' =>
         rw [hro'] at hround
         unfold Out
         rw [hR, e m0 l f cs u q k (.inr ht) rfl hro2, e m true f' cs' w q' k (.inl ht') rfl hro']
         exact round_rel h hc (hcs hro) hbs W T hro2 hround (.inr hj)
   cases x with
   | inBlock id =>
     have e : ∀ mm ll ff ccs ww kk, ff.todo = .inBlock id :: kk -> stepG.exec P mm ll ff ccs none ww = .go (live { ff with todo := kk } ccs) ww := fun _ _ _ _ _ _ e => by unfold stepG.exec; simp only [e]; rfl
     rw [e _ _ _ _ _ _ ht]; exact move k hdk hk (e _ _ _ _ _ _ ht')
   | inLoop b =>
     have e : ∀ mm ll ff ccs ww kk, ff.todo = .inLoop b :: kk -> stepG.exec P mm ll ff ccs none ww = .go (live { ff with todo := .code b :: .inLoop b :: kk } ccs) ww := fun _ _ _ _ _ _ e => by unfold stepG.exec; simp only [e]; rfl
     rw [e _ _ _ _ _ _ ht]; exact move (.code b :: .inLoop b :: k) (hd2 _ _ trivial trivial) (hk2 _ _ hx hx) (e _ _ _ _ _ _ ht')
   | inScope b =>
     have e : ∀ mm ll ff ccs ww kk, ff.todo = .inScope b :: kk -> stepG.exec P mm ll ff ccs none ww = .go (live { ff with todo := kk } ccs) ww := fun _ _ _ _ _ _ e => by unfold stepG.exec; simp only [e]; rfl
     rw [e _ _ _ _ _ _ ht]; exact move k hdk hk (e _ _ _ _ _ _ ht')
   | inRangeFunc q =>
     have e : stepG.exec P m0 l f cs none u = .ended (.unsupported (.noEntry "a range function without a Go body that blocks") (f.pos P)) u := by unfold stepG.exec; simp only [ht]
     rw [e]; exact trivial
   | beginRound =>
     have e : ∀ mm ll ff ccs ww kk, ff.todo = .beginRound :: kk -> stepG.exec P mm ll ff ccs none ww = stepG.apply P ll ff ccs none (do ff.roundOf.elim (stuck "beginRound: no round") Instr.beginRound; pure .skip) ww := fun _ _ _ _ _ _ e => by unfold stepG.exec; simp only [e]
     rw [e _ _ _ _ _ _ ht]
     refine apply_rel hb h hr hc W T ?_ (hR.trans (e _ _ _ _ _ _ ht'))
     have hround := h.round
     cases hro : f.roundOf with
     | none => exact SRel.halt
     | some q =>
       rw [hro] at hround
       cases hro' : f'.roundOf with
       | none => rw [hro'] at hround; exact hround.elim
       | some q' => rw [hro'] at hround; exact r_beginRound hx.1 hround
   | endRangeFunc q =>
     obtain ⟨q', hq⟩ := hdom _ List.mem_cons_self
     have ht2 : f'.todo = .endRangeFunc q' :: k.map (rnI π) := by rw [ht']; simp only [rnI, hq, Option.getD_some]
     have e : ∀ mm ll ff ccs ww qq kk, ff.todo = .endRangeFunc qq :: kk -> stepG.exec P mm ll ff ccs none ww = GStep.after (seen P ff.fn ((Instr.endLoop qq).runT P ww #[]).2) (match ((Instr.endLoop qq).runT P ww #[]).1 with
         | .ok jump w => .go (live { ff with todo := (jump.map Item.code).toList ++ kk } ccs) w
         | .halt (.panic v) w => .go (live (ff.raise [{ v, recovered := false }]) ccs) w
         | .halt _ w => .ended (.stuck "range over a function: no such loop" (ff.pos P)) w) := fun _ _ _ _ _ _ _ e => by unfold stepG.exec; simp only [e]; rfl
     unfold Out
     rw [hR, e _ _ _ _ _ _ _ ht, e _ _ _ _ _ _ _ ht2]
     have hR2 := (r_endLoop (P := P) (π := π) hx.1 hq).run #[] #[] W T (r := (Instr.endLoop q).run P u) (es' := ((Instr.endLoop q).runT P u #[]).2) (by rw [<- Sem.runT_fst (es := #[])])
     rw [Sem.runT_fst]
     refine Out2.after _ ?_
     cases hx2 : (Instr.endLoop q).run P u with
     | halt hh u' =>
       rw [hx2] at hR2
       obtain ⟨hm, hidle⟩ : Mild hh /\ Idle π u' := hR2
       cases hh with
       | panic v =>
         obtain ⟨ds, e5, hds⟩ := hc.calm
         refine .inl ⟨f.raise [{ v, recovered := false }], ds, [{ v, recovered := false }], by rw [<- e5], ?_, ?_, fun c hc => let ⟨_, h⟩ := hds c hc; h.mk hidle⟩
         · unfold Frame.raise; rw [hr]
         · unfold Frame.raise; rw [hr]; exact h.defers.mk hidle
       | _ => exact trivial
     | ok j u1 =>
       rw [hx2] at hR2
       obtain ⟨⟨j', w1, π1, gs, r1, ⟨rfl, hj⟩, r3, r4, r5⟩, -⟩ := hR2
       rw [r1]
       have hto : FrRel P π1 { f with todo := (j.map Item.code).toList ++ k } { f' with todo := ((j.map Item.code).toList ++ k).map (rnI π1) } := (h.mono r5.le).to _ (fun y hy => ?_) fun y hy => ?_
       · refine .inr ⟨_, w1, π1, gs, seen P f'.fn gs.toArray, ?_, fun e he => by simpa using Conc.mem_seen he, .inl ⟨_, _, _, _, rfl, rfl, hto, hc.mono r5.le⟩, r3, r4, r5⟩
         rw [List.map_append, map_mono r5.le hdk]
         cases j <;> simp [GStep.after, rnI]
       · rcases List.mem_append.1 hy with hy | hy
         · cases j with
           | none => simp at hy
           | some c => simp at hy; subst hy; exact trivial
         · exact (hdk y hy).mono r5.le
       · rcases List.mem_append.1 hy with hy | hy
         · cases j with
           | none => simp at hy
           | some c => simp at hy; subst hy; exact (hb.2 c (hj c rfl)).1
         · exact hk y hy
   | inRegion ops is =>
     cases is with
     | nil =>
       have e : ∀ mm ll ff ccs ww kk, ff.todo = .inRegion ops [] :: kk -> stepG.exec P mm ll ff ccs none ww = .go (live { ff with todo := kk } ccs) ww := fun _ _ _ _ _ _ e => by unfold stepG.exec; simp only [e]; rfl
       rw [e _ _ _ _ _ _ ht]; exact move k hdk hk (e _ _ _ _ _ _ ht')
     | cons i is =>
       have hy : yielded ops f.tmps = yielded ops f'.tmps := yielded_rel h.tmps
       have e1 : ∀ mm ll ff ccs ww kk, ff.todo = .inRegion ops (i :: is) :: kk -> stepG.exec P mm ll ff ccs none ww = if ((ops[i]?).map (Region.wanted · (yielded ops ff.tmps))).getD false then stepG.oper P ll ff ccs none ww else .go (live (ff.finish undef) ccs) ww := fun _ _ _ _ _ _ e => by unfold stepG.exec; simp only [e]; rfl
       rw [e1 m0 l f cs u k ht]
       have eR := hR.trans (e1 m true f' cs' w (k.map (rnI π)) ht')
       rw [<- hy] at eR
       by_cases hw : ((ops[i]?).map (Region.wanted · (yielded ops f.tmps))).getD false = true
       · rw [if_pos hw] at eR ⊢
         cases ho : ops[i]? with
         | none => rw [ho] at hw; cases hw
         | some o =>
           have hfo := (hx i o ho).resolve_left (hno ops i is k o ht ho)
           have e2 : ∀ ll ff ccs ww kk, ff.todo = .inRegion ops (i :: is) :: kk -> stepG.oper P ll ff ccs none ww = stepG.apply P ll ff ccs none (execOp ff.eval o) ww := fun _ ff _ _ _ e => by
             unfold stepG.oper Frame.oper?
             simp only [e, ho]
             have hnd : ∀ c, o.op ≠ .defer c := fun c hd => by
               have := hfo.1
               unfold Fit at this
               rw [hd] at this
               exact this
             split
             · rename_i hd; exact absurd hd (hnd _)
             · rfl
           rw [e2 l f cs u k ht]
           rw [e2 true f' cs' w (k.map (rnI π)) ht'] at eR
           exact apply_rel hb h hr hc W T (r_execOp ok hf (fun _ => rfl) (fun _ => rfl) hfo.1 fun x hx => h.eval (hfo.2 x hx)) eR
       · rw [if_neg hw] at eR ⊢
         exact out_go (h.finish (undef_rel π)) hc W T eR
   | code c =>
     cases c with
     | skip =>
       have e : ∀ mm ll ff ccs ww kk, ff.todo = .code .skip :: kk -> stepG.exec P mm ll ff ccs none ww = .go (live { ff with todo := kk } ccs) ww := fun _ _ _ _ _ _ e => by unfold stepG.exec; simp only [e]; rfl
       rw [e _ _ _ _ _ _ ht]; exact move k hdk hk (e _ _ _ _ _ _ ht')
     | label n =>
       have e : ∀ mm ll ff ccs ww kk, ff.todo = .code (.label n) :: kk -> stepG.exec P mm ll ff ccs none ww = .go (live { ff with todo := kk } ccs) ww := fun _ _ _ _ _ _ e => by unfold stepG.exec; simp only [e]; rfl
       rw [e _ _ _ _ _ _ ht]; exact move k hdk hk (e _ _ _ _ _ _ ht')
     | seq a b =>
       have e : ∀ mm ll ff ccs ww kk, ff.todo = .code (.seq a b) :: kk -> stepG.exec P mm ll ff ccs none ww = .go (live { ff with todo := .code a :: .code b :: kk } ccs) ww := fun _ _ _ _ _ _ e => by unfold stepG.exec; simp only [e]; rfl
       rw [e _ _ _ _ _ _ ht]; exact move (.code a :: .code b :: k) (hd2 _ _ trivial trivial) (hk2 _ _ hx.1 hx.2) (e _ _ _ _ _ _ ht')
     | block id b =>
       have e : ∀ mm ll ff ccs ww kk, ff.todo = .code (.block id b) :: kk -> stepG.exec P mm ll ff ccs none ww = .go (live { ff with todo := .code b :: .inBlock id :: kk } ccs) ww := fun _ _ _ _ _ _ e => by unfold stepG.exec; simp only [e]; rfl
       rw [e _ _ _ _ _ _ ht]; exact move (.code b :: .inBlock id :: k) (hd2 _ _ trivial trivial) (hk2 _ _ hx trivial) (e _ _ _ _ _ _ ht')
     | loop b =>
       have e : ∀ mm ll ff ccs ww kk, ff.todo = .code (.loop b) :: kk -> stepG.exec P mm ll ff ccs none ww = .go (live { ff with todo := .code b :: .inLoop b :: kk } ccs) ww := fun _ _ _ _ _ _ e => by unfold stepG.exec; simp only [e]; rfl
       rw [e _ _ _ _ _ _ ht]; exact move (.code b :: .inLoop b :: k) (hd2 _ _ trivial trivial) (hk2 _ _ hx hx) (e _ _ _ _ _ _ ht')
     | scope b =>
       have e : ∀ mm ll ff ccs ww kk, ff.todo = .code (.scope b) :: kk -> stepG.exec P mm ll ff ccs none ww = .go (live { ff with todo := .code b :: .inScope b :: kk } ccs) ww := fun _ _ _ _ _ _ e => by unfold stepG.exec; simp only [e]; rfl
       rw [e _ _ _ _ _ _ ht]; exact move (.code b :: .inScope b :: k) (hd2 _ _ trivial trivial) (hk2 _ _ hx hx) (e _ _ _ _ _ _ ht')
     | cond c a b =>
       have hv := h.eval hx.1
       have eb : ∀ mm ll ff ccs ww bb kk, ff.todo = .code (.cond c a b) :: kk -> ff.eval c = .bool bb -> stepG.exec P mm ll ff ccs none ww = .go (live { ff with todo := .code (if bb then a else b) :: kk } ccs) ww := fun _ _ _ _ _ _ _ e e2 => by unfold stepG.exec; simp only [e, e2]; rfl
       have el : ∀ mm ll ff ccs ww kk, ff.todo = .code (.cond c a b) :: kk -> (∀ bb, ff.eval c ≠ .bool bb) -> stepG.exec P mm ll ff ccs none ww = .ended (.stuck "cond: bool expected" (ff.pos P)) ww := fun _ _ ff _ _ _ e e2 => by
         unfold stepG.exec
         simp only [e]
       by_cases hbb : ∃ bb, f.eval c = .bool bb
       · obtain ⟨bb, e⟩ := hbb
         have e' : f'.eval c = .bool bb := by
           rw [e] at hv
           generalize f'.eval c = v' at hv
           cases hv
           rfl
         rw [eb m0 l f cs u bb k ht e]
         exact move (.code (if bb then a else b) :: k) (hd1 _ trivial) (hk1 _ (by cases bb; exact hx.2.2; exact hx.2.1)) (eb m true f' cs' w bb _ ht' e')
       · rw [el m0 l f cs u k ht fun bb e => hbb ⟨bb, e⟩]
         exact trivial
     | exit id =>
       have e1 : ∀ mm ll ff ccs ww t kk, ff.todo = .code (.exit id) :: kk -> exitTo id kk = some t -> stepG.exec P mm ll ff ccs none ww = .go (live { ff with todo := t } ccs) ww := fun _ _ _ _ _ _ _ e e2 => by unfold stepG.exec; simp only [e, e2]; rfl
       cases he : exitTo id k with
       | some t =>
         rw [e1 m0 l f cs u t k ht he]
         exact move t (fun y hy => hdk y (exitTo_sub he y hy)) (fun y hy => hk y (exitTo_sub he y hy)) (e1 m true f' cs' w _ _ ht' (by rw [exitTo_map, he]; rfl))
       | none =>
         by_cases hro : f.roundOf = none
         · have e : stepG.exec P m0 l f cs none u = .ended (.stuck "exit, goto: no such block or label" (f.pos P)) u := by
             unfold stepG.exec; simp only [ht, he, hro]; rfl
           rw [e]; exact trivial
         · refine hrnd (some (.exit id)) (.inr ⟨id, rfl⟩) (fun mm ll ff ccs ww qq kk e e0 e2 => ?_) hro
           subst e0
           rcases e with e | e
           · have he2 : exitTo id (kk.map (rnI π)) = none := by rw [exitTo_map, he]; rfl
             unfold stepG.exec roundStep; simp only [e, rnI, he2, e2]; rfl
           · unfold stepG.exec roundStep; simp only [e, he, e2]; rfl
     | ret =>
       have e : ∀ mm ll ff ccs ww kk, ff.todo = .code .ret :: kk -> ff.roundOf = none -> stepG.exec P mm ll ff ccs none ww = .go (live { ff with mode := .returning } ccs) ww := fun _ _ _ _ _ _ e e2 => by unfold stepG.exec; simp only [e, e2]; rfl
       by_cases hro : f.roundOf = none
       · rw [e _ _ _ _ _ _ ht hro]
         exact hend hro (e _ _ _ _ _ _ ht' (round_none h.round hro))
       · refine hrnd (some .ret) (.inl rfl) (fun mm ll ff ccs ww qq kk e e0 e2 => ?_) hro
         subst e0
         rcases e with e | e
         · unfold stepG.exec roundStep; simp only [e, rnI, e2]; rfl
         · unfold stepG.exec roundStep; simp only [e, e2]; rfl
     | refuse why =>
       obtain ⟨o, e⟩ : ∃ o, stepG.exec P m0 l f cs none u = .ended o u := by
         unfold stepG.exec
         simp only [ht]
         exact ⟨_, rfl⟩
       rw [e]; exact trivial
     | region id ops draw =>
       cases draw with
       | false =>
         have e : ∀ mm ll ff ccs ww kk, ff.todo = .code (.region id ops false) :: kk -> stepG.exec P mm ll ff ccs none ww = .go (live { ff with todo := .inRegion ops (List.range ops.size) :: kk } ccs) ww := fun _ _ _ _ _ _ e => by unfold stepG.exec; simp only [e]; rfl
         rw [e _ _ _ _ _ _ ht]; exact move (.inRegion ops (List.range ops.size) :: k) (hd1 _ trivial) (hk1 _ hx) (e _ _ _ _ _ _ ht')
       | true =>
         have hs : SRel P (fun _ (a b : Nat) => a = b) π (choose (.order f.fn id)) (choose (.order f.fn id)) := .choose fun n => .pure rfl
         have hR2 := hs.run #[] #[] W T (r := (choose (.order f.fn id)).run P u) (es' := ((choose (.order f.fn id)).runT P u #[]).2) (by rw [<- Sem.runT_fst (es := #[])])
         have e1 : ∀ mm ll ff ccs ww n w2 kk, ff.todo = .code (.region id ops true) :: kk -> (choose (.order ff.fn id)).run P ww = .ok n w2 -> stepG.exec P mm ll ff ccs none ww = .go (live { ff with todo := .inRegion ops (Region.schedule (P.follows .mixedOrders) ops n) :: kk } ccs) w2 := fun _ _ _ _ _ _ _ _ e e2 => by unfold stepG.exec; simp only [e, e2]; rfl
         cases hL : (choose (.order f.fn id)).run P u with
         | halt hh u' =>
           exfalso
           have hmc : ∀ h u', (choose (.order f.fn id)).run P u ≠ .halt h u' := fun h u' e => by
             unfold choose at e
             simp only [Sem.run] at e
             split at e <;> cases e
           exact hmc _ _ hL
         | ok n u1 =>
           rw [hL] at hR2
           obtain ⟨⟨n', w1, π1, gs, r1, r2, r3, r4, r5⟩, -⟩ := hR2
           subst r2
           have hrun : (choose (.order f'.fn id)).run P w = .ok n w1 := by
             rw [<- h.fn, <- Sem.runT_fst (es := #[]), r1]
           rw [e1 m0 l f cs u n u1 k ht hL]
           have hto := (h.mono r5.le).to (.inRegion ops (Region.schedule (P.follows .mixedOrders) ops n) :: k) (fun y hy => (hd1 (.inRegion ops (Region.schedule (P.follows .mixedOrders) ops n)) trivial y hy).mono r5.le) (hk1 _ hx)
           refine .inr ⟨_, w1, π1, gs, #[], hR.trans ((e1 m true f' cs' w n w1 _ ht' hrun).trans ?_), fun e he => by simp at he, .inl ⟨_, _, _, _, rfl, rfl, hto, hc.mono r5.le⟩, r3, r4, r5⟩
           rw [List.map_cons, map_mono r5.le hdk]
           rfl
     | rangeFunc fv params assign body =>
       obtain ⟨hxf, hxa, hxb⟩ := hx
       have hRf := (hb.2 assign hxa).2
       have e : ∀ mm ll ff ccs ww kk, ff.todo = .code (.rangeFunc fv params assign body) :: kk -> stepG.exec P mm ll ff ccs none ww = GStep.after (seen P ff.fn ((Instr.enterLoop ff.fn ff.tmps params assign body ff.roundOf).runT P ww #[]).2) (match ((Instr.enterLoop ff.fn ff.tmps params assign body ff.roundOf).runT P ww #[]).1 with
         | .ok (q, mark) w => stepG.apply P ll { ff with todo := .inRangeFunc q :: kk, defers := mark ++ ff.defers } ccs none (do let d <- Deferred.ofValue (ff.eval fv) #[.func (.yield q) #[] #[]]; invoke d.target d.args) w
         | .halt _ w => .ended (.stuck "range over a function: no such loop" (ff.pos P)) w) := fun _ _ ff _ ww _ e => by
         unfold stepG.exec
         simp only [e]
         cases ((Instr.enterLoop ff.fn ff.tmps params assign body ff.roundOf).runT P ww #[]).1 with
         | ok r w =>
           obtain ⟨q, mark⟩ := r
           simp only [resolve]
           rw [List.map_toArray]
           rfl
         | halt _ _ => rfl
       have hR2 := (r_enterLoop (P := P) h.fn h.tmps hxa hxb h.round (params := params)).run #[] #[] W T (r := (Instr.enterLoop f.fn f.tmps params assign body f.roundOf).run P u) (es' := ((Instr.enterLoop f.fn f.tmps params assign body f.roundOf).runT P u #[]).2) (by rw [<- Sem.runT_fst (es := #[])])
       unfold Out
       rw [hR, e _ _ _ _ _ _ ht, e _ _ _ _ _ _ ht', Sem.runT_fst]
       cases hx2 : (Instr.enterLoop f.fn f.tmps params assign body f.roundOf).run P u with
       | halt hh u' => exact trivial
       | ok q u1 =>
         obtain ⟨q, mark⟩ := q
         rw [hx2] at hR2
         obtain ⟨⟨⟨q', mark'⟩, w1, π1, gs, r1, ⟨hq, hmk⟩, r3, r4, r5⟩, -⟩ := hR2
         rw [r1]
         refine Out2.seq _ _ r5 (fun e he => by simpa using Conc.mem_seen he) ?_
         simp only at hq hmk ⊢
         have h1 := h.mono r5.le
         have hF : FrRel P π1 { f with todo := .inRangeFunc q :: k, defers := mark ++ f.defers } { f' with todo := .inRangeFunc q' :: k.map (rnI π), defers := mark' ++ f'.defers } := by
           refine ⟨h1.fn, h1.fnOk, h1.tmps, ?_, fun y hy => ?_, fun y hy => ?_, hmk.append h1.defers, h1.mode, h1.live, h1.kind, h1.kind', h1.round, fun _ => hRf⟩
           · rw [List.map_cons, map_mono r5.le hdk]
             simp only [rnI, hq, Option.getD_some]
           · rcases List.mem_cons.1 hy with rfl | hy
             · exact ⟨_, hq⟩
             · exact (hdk y hy).mono r5.le
           · rcases List.mem_cons.1 hy with rfl | hy
             · exact hRf
             · exact hk y hy
         refine apply_rel2 hb hF hr (hc.mono r5.le) r3 r4 (r_callValue hf (h1.eval hxf) ?_)
         exact VsRel.one (.func hq rfl (fun i hi => by simp at hi) rfl (fun i hi => by simp at hi))
     | goto _ => exact hx.elim
   | _ => exact hx.elim
end
end Go.Eq
