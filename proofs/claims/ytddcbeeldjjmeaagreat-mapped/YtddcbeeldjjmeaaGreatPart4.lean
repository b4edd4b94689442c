/- THE OPERATIONS OF A PIECE THAT A CHILD WALKS ALONE, ALIKE ON EITHER SIDE (first part): panics, places, rows. -/
import Derived.Test.YtddcbeeldjjmeaaGreatPart3
namespace Go.Eq
open Go
section
variable [Env] {P : Program} {α β γ δ : Type} {Q : Ren -> γ -> δ -> Prop} {π : Ren}
def MildS (P : Program) (x : Sem α) : Prop := ∀ u, match x.run P u with
 | .ok _ u' => Calm u u'
 | .halt h u' => Mild h /\ Calm u u'
omit [Env] in
theorem DeadS.left {x : Sem α} {f : α -> Sem γ} (h : DeadS P x) : DeadS P (x >>= f) := dead_bind h
omit [Env] in
theorem DeadS.right {x : Sem α} {f : α -> Sem γ} (m : MildS P x) (h : ∀ a, DeadS P (f a)) : DeadS P (x >>= f) := by
 intro u
 rw [Sem.run_bind]
 have hm := m u
 cases hx : x.run P u with
 | ok b u1 =>
   rw [hx] at hm
   obtain ⟨hh, u2, e1, e2, e3⟩ := h b u1
   exact ⟨hh, u2, e1, e2, hm.trans e3⟩
 | halt hh u1 => rw [hx] at hm; exact ⟨hh, u1, rfl, hm⟩
omit [Env] in
theorem DeadS.halt {h : Halt} (m : Mild h := by trivial) : DeadS P (Sem.halt h : Sem α) := fun u => ⟨h, u, rfl, m, .refl u⟩
omit [Env] in
theorem DeadS.mild {x : Sem α} (h : DeadS P x) : MildS P x := fun u => by
 obtain ⟨h1, u1, e1, m⟩ := h u
 rw [e1]; exact m
omit [Env] in
theorem MildS.pure {a : α} : MildS P (Pure.pure a : Sem α) := fun u => .refl u
omit [Env] in
theorem MildS.bind {x : Sem α} {f : α -> Sem γ} (hx : MildS P x) (hf : ∀ a, MildS P (f a)) : MildS P (x >>= f) := by
 intro u
 rw [Sem.run_bind]
 have hm := hx u
 cases ex : x.run P u with
 | ok b u1 =>
   rw [ex] at hm
   have h2 := hf b u1
   show match (f b).run P u1 with
     | .ok _ u' => Calm u u'
     | .halt h u' => Mild h /\ Calm u u'
   cases e2 : (f b).run P u1 with
   | ok c u2 => rw [e2] at h2; exact hm.trans h2
   | halt hh u2 => rw [e2] at h2; exact ⟨h2.1, hm.trans h2.2⟩
 | halt hh u1 => rw [ex] at hm; exact hm
omit [Env] in
theorem MildS.program : MildS P Go.program := fun u => .refl u
omit [Env] in
theorem MildS.shape {r : Nat} : MildS P (Go.shape r) := fun u => .refl u
omit [Env] in
theorem MildS.frozen {r : Addr} : MildS P (Go.frozen r) := fun u => .refl u
omit [Env] in
theorem MildS.choose {q : Question} : MildS P (Go.choose q) := fun u => by
 unfold Go.choose
 simp only [Sem.run]
 split <;> rename_i e <;> split at e <;> cases e <;> exact fun r ds h => .inr h
omit [Env] in
theorem MildS.mark {m : Mark} : MildS P (Go.mark m) := fun u => .refl u
omit [Env] in
theorem MildS.newObj {o : Obj} (ho : ∀ ds, o ≠ .deferred (some ds)) : MildS P (Go.newObj o) := fun u => by
 intro r ds h
 have h : (u.heap.push o)[r]? = some (.deferred (some ds)) := h
 rw [Array.getElem?_push] at h
 split at h
 · cases h; exact absurd rfl (ho ds)
 · exact .inr h
omit [Env] in
theorem MildS.elemOf {t : TypeId} : MildS P (Go.elemOf t) := by
 unfold Go.elemOf Go.underlying
 refine .bind (.bind .program fun p => ?_) fun d => ?_
 · split
   · exact .pure
   · exact DeadS.mild (DeadS.halt (by trivial))
 · split
   · exact .pure
   · exact DeadS.mild (DeadS.halt (by trivial))
omit [Env] in
theorem dead_panic {e : RuntimeError} : DeadS P (runtimePanic e : Sem α) := by
 unfold runtimePanic
 refine .right .program fun p => ?_
 cases e with
 | typeAssertion i c a m => exact .right .elemOf fun _ => .right (.bind (.newObj fun _ e => by cases e) fun _ => .pure) fun _ => .halt
 | panicNil => exact .right .elemOf fun _ => .right (.bind (.newObj fun _ e => by cases e) fun _ => .pure) fun _ => .halt
 | _ => exact .halt
omit [Env] in
theorem dead_bounds {k : IntKind} {x y : Int} {c : BoundsCode} : DeadS P (boundsPanic k x y c : Sem α) := by
 unfold boundsPanic
 split
 · refine .right ?_ fun _ => dead_panic
   rw [map_eq_pure_bind]
   exact .bind .choose fun _ => .pure
 · exact .right .pure fun _ => dead_panic
theorem go_dead {x : Sem α} {f : α -> Sem γ} {y : Sem δ} (h : DeadS P x) : SRel P Q π (x >>= f) y := .dead h.left
theorem go_panic {e : RuntimeError} {f : α -> Sem γ} {y : Sem δ} : SRel P Q π ((runtimePanic e : Sem α) >>= f) y := go_dead dead_panic
theorem go_bounds {k : IntKind} {x y : Int} {c : BoundsCode} {f : α -> Sem γ} {z : Sem δ} : SRel P Q π ((boundsPanic k x y c : Sem α) >>= f) z := go_dead dead_bounds
structure Sure (P : Program) (x : Sem α) : Prop where
 go : ∀ {γ δ : Type} {Q : Ren -> γ -> δ -> Prop} {π : Ren} {f : α -> Sem γ} {g : α -> Sem δ}, (∀ a, SRel P Q π (f a) (g a)) -> SRel P Q π (x >>= f) (x >>= g)
theorem Sure.pure {a : α} : Sure P (Pure.pure a : Sem α) := ⟨fun h => h a⟩
theorem Sure.bind {x : Sem α} {k : α -> Sem β} (hx : Sure P x) (hk : ∀ a, Sure P (k a)) : Sure P (x >>= k) := by
 refine ⟨fun h => ?_⟩
 rw [bind_assoc, bind_assoc]
 exact hx.go fun a => (hk a).go h
theorem Sure.mapL {k : α -> Sem β} (hk : ∀ a, Sure P (k a)) : ∀ l : List α, Sure P (l.mapM k)
 | [] => by rw [List.mapM_nil]; exact .pure
 | a :: l => by
   rw [List.mapM_cons]
   exact (hk a).bind fun b => (Sure.mapL hk l).bind fun _ => .pure
theorem Sure.map {k : α -> Sem β} (hk : ∀ a, Sure P (k a)) (l : Array α) : Sure P (l.mapM k) := by
 rw [Array.mapM_eq_mapM_toList, map_eq_pure_bind]
 exact (Sure.mapL hk _).bind fun _ => .pure
theorem Sure.sizeOf {t : TypeId} : Sure P (Go.sizeOf t) := ⟨fun h => go_sizeOf h⟩
-- rows filled part by part
inductive PsRel (π : Ren) : List (Nat × Value) -> List (Nat × Value) -> Prop
 | nil : PsRel π [] []
 | cons {i : Nat} {v v' : Value} {l l' : List (Nat × Value)} : VRel π v v' -> PsRel π l l' -> PsRel π ((i, v) :: l) ((i, v') :: l')
theorem PsRel.map {π : Ren} {ι : Type} (l : List (Nat × ι)) {f g : ι -> Value} (h : ∀ x, x ∈ l -> VRel π (f x.2) (g x.2)) : PsRel π (l.map fun x => (x.1, f x.2)) (l.map fun x => (x.1, g x.2)) := by
 induction l with
 | nil => exact .nil
 | cons a l ih => exact .cons (h a List.mem_cons_self) (ih fun x hx => h x (List.mem_cons_of_mem _ hx))
theorem fold_set {π : Ren} {off : Nat} : ∀ {l l' : List Value} (n : Nat) {c c' : Array Value}, LsRel π l l' -> VsRel π c c' ->
   VsRel π ((l.zipIdx n).foldl (fun cs (x : Value × Nat) => cs.setIfInBounds (off + x.2) x.1) c) ((l'.zipIdx n).foldl (fun cs (x : Value × Nat) => cs.setIfInBounds (off + x.2) x.1) c')
 | _, _, _, _, _, .nil, h => h
 | _, _, n, _, _, .cons hv hl, h => fold_set (n + 1) hl (h.set (off + n) hv)
theorem fill_rel {π : Ren} {place : Nat -> Option (Nat × Nat)} : ∀ {l l' : List (Nat × Value)} {c c' : Array Value}, PsRel π l l' -> VsRel π c c' ->
   (Instr.fill place c l = none /\ Instr.fill place c' l' = none) ∨ ∃ d d', Instr.fill place c l = some d /\ Instr.fill place c' l' = some d' /\ VsRel π d d'
 | _, _, c, c', .nil, h => .inr ⟨c, c', rfl, rfl, h⟩
 | _, _, c, c', .cons (i := i) (v := v) (v' := v') hv hl, h => by
   simp only [Instr.fill]
   cases e : place i with
   | none => exact .inl ⟨rfl, rfl⟩
   | some p =>
     obtain ⟨off, size⟩ := p
     simp only []
     rw [<- hv.cells.1, <- h.1]
     split
     · exact .inl ⟨rfl, rfl⟩
     · refine fill_rel hl ?_
       have := fold_set (off := off) 0 hv.cells.toList h
       rw [<- Array.foldl_toList, <- Array.foldl_toList, Array.toList_zipIdx, Array.toList_zipIdx]
       exact this
theorem closed_default : Closed (default : Value) := fun π => by
 have : (default : Value) = (default : Value) := rfl
 first | exact VRel.bool _ | exact VRel.nilFunc | exact VRel.nilIface
theorem zeros_rel {z : Value} (hz : Closed z) (n : Nat) (m : Nat -> Nat) : VsRel π ((Array.range n).map fun i => z.cells[m i]!) ((Array.range n).map fun i => z.cells[m i]!) := by
 refine VsRel.map _ fun i _ => ?_
 have := (hz π).cells.getD (m i) (closed_default π)
 rw [Array.getD_eq_getD_getElem?] at this
 rw [getElem!_def]
 cases e : z.cells[m i]? <;> rw [e] at this <;> exact this
end
section
variable [Env] {P : Program} {α β γ δ : Type} {Q : Ren -> γ -> δ -> Prop} {π : Ren}
abbrev VQ [Env] : Ren -> Value -> Value -> Prop := fun π v v' => VRel π v v'
abbrev UQ : Ren -> Unit -> Unit -> Prop := fun _ _ _ => True
theorem VRel.agg' {c c' : Array Value} (h : VsRel π c c') : VRel π (.agg c) (.agg c') := .agg h.1 h.2
theorem r_alloc (ok : POk P) {t : TypeId} (ht : t < P.types.size) : SRel P VQ π (Instr.alloc t true (.tuple #[])) (Instr.alloc t true (.tuple #[])) := by
 unfold Instr.alloc
 exact go_zeroValue ok ht fun v hv => go_newVar (hv π) fun r r' _ ha => .pure (.pointer ha)
theorem r_box {t : TypeId} {v v' : Value} (hv : VRel π v v') : SRel P VQ π (Instr.box t v) (Instr.box t v') := by
 unfold Instr.box
 exact go_newVar hv fun r r' _ ha => .pure (.pointer ha)
theorem r_load {t : TypeId} {v v' : Value} (hv : VRel π v v') : SRel P VQ π (Instr.loadAt t v) (Instr.loadAt t v') := by
 unfold Instr.loadAt
 refine go_sureAddr hv fun a a' ha => ?_
 have := go_loadVar (P := P) (Q := VQ) (t := t) ha (f := pure) (g := pure) fun v v' h => .pure h
 rwa [bind_pure, bind_pure] at this
theorem r_store {t : TypeId} {v v' x x' : Value} (hv : VRel π v v') (hx : VRel π x x') : SRel P UQ π (Instr.storeAt t v x) (Instr.storeAt t v' x') := by
 unfold Instr.storeAt
 refine go_sureAddr hv fun a a' ha => ?_
 have := go_storeVar (P := P) (Q := UQ) (t := t) ha hx (f := pure) (g := pure) (.pure trivial)
 rwa [bind_pure, bind_pure] at this
theorem go_fill {place : Nat -> Option (Nat × Nat)} {c c' : Array Value} {l l' : List (Nat × Value)} (hl : PsRel π l l') (hc : VsRel π c c') {s : String} {f : Array Value -> Sem γ} {g : Array Value -> Sem δ} (h : ∀ d d', VsRel π d d' -> SRel P Q π (f d) (g d')) :
   SRel P Q π (match Instr.fill place c l with | some d => f d | _ => stuck s) (match Instr.fill place c' l' with | some d => g d | _ => stuck s) := by
 rcases fill_rel (place := place) hl hc with ⟨e, e'⟩ | ⟨d, d', e, e', hd⟩
 · rw [e, e']; exact SRel.halt
 · rw [e, e']; exact h d d' hd
theorem r_build (ok : POk P) {t : TypeId} (ht : t < P.types.size) {ps ps' : Array (Nat × Value)} (hp : PsRel π ps.toList ps'.toList) : SRel P VQ π (Instr.build t ps) (Instr.build t ps') := by
 unfold Instr.build
 refine go_zeroValue ok ht fun z hz => go_underlying fun d _ => ?_
 split
 · refine (Sure.map (fun f => Sure.sizeOf.bind fun _ => .pure) _).go fun places => ?_
   exact go_fill hp (hz π).cells fun d d' hd => .pure (.agg' hd)
 · refine go_sizeOf fun n => ?_
   exact go_fill hp (hz π).cells fun d d' hd => .pure (.agg' hd)
 · exact SRel.halt
theorem r_buildSlice (ok : POk P) {t : TypeId} (he : ∀ e, P.underlying t = some (.slice e) -> e < P.types.size) {n : Nat} {ps ps' : Array (Nat × Value)} (hp : PsRel π ps.toList ps'.toList) : SRel P VQ π (Instr.buildSlice t n ps) (Instr.buildSlice t n ps') := by
 unfold Instr.buildSlice
 refine go_underlying fun d hd => ?_
 split
 · rename_i elem
   refine go_sizeOf fun size => ?_
   by_cases h1 : n * size > 2 ^ 24
   · simp only [if_pos h1]; exact go_unsupported
   · simp only [if_neg h1]
     by_cases h0 : n * size = 0
     · simp only [h0, if_true, pure_bind]
       refine go_fill hp ?_ fun d d' hd => go_newRow hd fun r r' _ ha => .pure (.slice n n ha)
       exact VsRel.map _ fun i hi => by simp at hi
     · simp only [if_neg h0, pure_bind]
       refine go_zeroValue ok (he elem hd) fun z hz => ?_
       exact go_fill hp (zeros_rel hz _ _) fun d d' hd => go_newRow hd fun r r' _ ha => .pure (.slice n n ha)
 · exact SRel.halt
-- places
theorem go_viewAt {r r' : Nat} (hr : π r = some r') {f : Option (Addr × TypeId) -> Sem γ} {g : Option (Addr × TypeId) -> Sem δ} (h : SRel P Q π (f none) (g none)) : SRel P Q π (viewAt r >>= f) (viewAt r' >>= g) := by
 unfold viewAt
 rw [bind_assoc, bind_assoc]
 refine go_shape hr fun s => ?_
 cases s with
 | some s => exact h
 | none =>
   simp only [Option.isSome_none, Bool.false_eq_true, if_false]
   simp only [bind_assoc]
   refine go_getObj hr fun o o' ho => ?_
   cases o <;> cases o' <;> simp only [ORel] at ho <;> exact h
theorem go_noView {a a' : Addr} (ha : ARel π a a') {f : Unit -> Sem γ} {g : Unit -> Sem δ} (h : SRel P Q π (f ()) (g ())) : SRel P Q π (noView a >>= f) (noView a' >>= g) := by
 unfold noView
 rw [bind_assoc, bind_assoc]
 exact go_viewAt ha.1 h
theorem go_byteOf {a a' : Addr} (ha : ARel π a a') {f : Nat -> Sem γ} {g : Nat -> Sem δ} (h : ∀ n, SRel P Q π (f n) (g n)) : SRel P Q π (byteOf a >>= f) (byteOf a' >>= g) := by
 unfold byteOf
 rw [<- ha.2.2.1, <- ha.2.1]
 cases a.spot with
 | some s => exact h s
 | none =>
   simp only [bind_assoc]
   refine go_program (go_noView ha (go_shape ha.1 fun s => ?_))
   cases s with
   | none => exact go_stuck
   | some s =>
     simp only []
     split
     · exact h 0
     · split
       · exact h _
       · exact go_stuck
theorem go_fieldPlace {a a' : Addr} (ha : ARel π a a') {fd : Field} {f : Addr -> Sem γ} {g : Addr -> Sem δ} (h : ∀ a a', ARel π a a' -> SRel P Q π (f a) (g a')) : SRel P Q π (fieldPlace a fd >>= f) (fieldPlace a' fd >>= g) := by
 unfold fieldPlace
 rw [bind_assoc, bind_assoc]
 refine go_sizeOf fun n => ?_
 split
 · unfold partAt
   simp only [bind_assoc]
   refine go_byteOf ha fun n => ?_
   have hp : ARel π { block := a.block, off := a.off + fd.offset } { block := a'.block, off := a'.off + fd.offset } := ⟨ha.1, by simp [ha.2.1], rfl, ha.2.2.2⟩
   refine go_byteOf hp fun m => ?_
   simp only [pure_bind]
   split
   · exact h _ _ hp
   · exact h _ _ ⟨hp.1, hp.2.1, rfl, hp.2.2.2⟩
 · exact h _ _ (ha.add _)
theorem r_field {s : TypeId} {v v' : Value} (hv : VRel π v v') {n : Nat} : SRel P VQ π (Instr.fieldAt s v n) (Instr.fieldAt s v' n) := by
 unfold Instr.fieldAt
 refine go_underlying fun d _ => ?_
 split
 · split
   · exact go_sureAddr hv fun a a' ha => go_fieldPlace ha fun b b' hb => .pure (.pointer hb)
   · exact SRel.halt
 · exact SRel.halt
theorem go_part {t : TypeId} {c c' : Array Value} (hc : VsRel π c c') {off : Nat} {f : Value -> Sem γ} {g : Value -> Sem δ} (h : ∀ v v', VRel π v v' -> SRel P Q π (f v) (g v')) : SRel P Q π (part t c off >>= f) (part t c' off >>= g) := by
 unfold part
 rw [bind_assoc, bind_assoc]
 refine go_isAgg fun b => ?_
 cases b
 · simp only [Bool.false_eq_true, if_false]
   rcases hc.get? off with ⟨e, e'⟩ | ⟨x, x', e, e', hx⟩
   · rw [e, e']; exact go_stuck
   · rw [e, e']; exact h _ _ hx
 · simp only [if_true]
   rw [bind_assoc, bind_assoc]
   exact go_sizeOf fun n => h _ _ (.agg' (hc.extract _ _))
theorem r_part {t : TypeId} {c c' : Array Value} (hc : VsRel π c c') (off : Nat) : SRel P VQ π (part t c off) (part t c' off) := by
 have := go_part (P := P) (Q := VQ) (f := pure) (g := pure) (t := t) (off := off) hc fun v v' h => .pure h
 rw [bind_pure, bind_pure] at this
 exact this
theorem r_index {t : TypeId} {x x' i i' : Value} (hx : VRel π x x') (hi : VRel π i i') : SRel P VQ π (Instr.index t x i) (Instr.index t x' i') := by
 unfold Instr.index
 refine go_asIntOf hi fun k n => go_underlying fun d _ => ?_
 cases hx with
 | agg e hc =>
   cases d <;> simp only [] <;> try exact SRel.halt
   split
   · refine go_sizeOf fun m => ?_
     have hcc : VsRel π _ _ := ⟨e, hc⟩
     exact r_part hcc _
   · exact .dead dead_bounds
 | string s =>
   cases d <;> simp only [] <;> try exact SRel.halt
   split
   · exact .pure (.int _ _)
   · exact .dead dead_bounds
 | _ => cases d <;> exact SRel.halt
theorem go_sliceBound {v v' : Value} (hv : VRel π v v') {y : Nat} {c : BoundsCode} {f : Nat -> Sem γ} {g : Nat -> Sem δ} (h : ∀ n, SRel P Q π (f n) (g n)) : SRel P Q π (Instr.sliceBound v y c >>= f) (Instr.sliceBound v' y c >>= g) := by
 unfold Instr.sliceBound
 rw [bind_assoc, bind_assoc]
 refine go_asIntOf hv fun k n => ?_
 by_cases hc : 0 <= n /\ n <= (y : Int)
 · simp only [if_pos hc]; exact h _
 · simp only [if_neg hc]; exact go_bounds
inductive OVRel (π : Ren) : Option Value -> Option Value -> Prop
 | none : OVRel π none none
 | some {v v' : Value} : VRel π v v' -> OVRel π (some v) (some v')
theorem go_sliceBounds {b : Bool} {len cap : Nat} {lo hi mx lo' hi' mx' : Option Value} (h1 : OVRel π lo lo') (h2 : OVRel π hi hi') (h3 : OVRel π mx mx') {f : Nat × Nat × Nat -> Sem γ} {g : Nat × Nat × Nat -> Sem δ} (h : ∀ n, SRel P Q π (f n) (g n)) : SRel P Q π (Instr.sliceBounds b len cap lo hi mx >>= f) (Instr.sliceBounds b len cap lo' hi' mx' >>= g) := by
 unfold Instr.sliceBounds
 cases h3 <;> cases h2 <;> cases h1 <;> simp only [bind_assoc, pure_bind] <;> first | exact go_stuck | skip
 all_goals repeat (first | exact h _ | refine go_sliceBound (by assumption) fun _ => ?_ | exact go_stuck)
theorem r_slice {t : TypeId} {x x' : Value} {lo hi mx lo' hi' mx' : Option Value} (hx : VRel π x x') (h1 : OVRel π lo lo') (h2 : OVRel π hi hi') (h3 : OVRel π mx mx') : SRel P VQ π (Instr.sliceAt t x lo hi mx) (Instr.sliceAt t x' lo' hi' mx') := by
 unfold Instr.sliceAt
 refine go_underlying fun d hd => ?_
 split
 · refine go_sureAddr hx fun a a' ha => go_sliceBounds h1 h2 h3 fun n => go_sizeOf fun s => .pure (.slice _ _ ?_)
   split
   · exact ha
   · exact ha.add _
 · unfold Instr.slice
   refine go_underlying fun d' hd' => ?_
   rw [hd] at hd'; cases hd'
   cases hx with
   | string s =>
     cases d <;> simp only [] <;> try exact SRel.halt
     · have hm : mx.isSome = mx'.isSome := by cases h3 <;> rfl
       rw [<- hm]
       split
       · exact SRel.halt
       · exact go_sliceBounds h1 h2 .none fun n => .pure (.string _)
   | snil n c =>
     cases d <;> simp only [] <;> try exact SRel.halt
     refine go_sliceBounds h1 h2 h3 fun n => go_sizeOf fun s => .pure ?_
     simp only [Option.map_none, ite_self]
     exact .snil _ _
   | slice n c ha =>
     cases d <;> simp only [] <;> try exact SRel.halt
     refine go_sliceBounds h1 h2 h3 fun n => go_sizeOf fun s => .pure ?_
     split
     · exact .slice _ _ ha
     · exact .slice _ _ (ha.add _)
   | pointer ha =>
     cases d <;> simp only [] <;> try exact SRel.halt
     simp only [asAddr, pure_bind]
     refine go_underlying fun d _ => ?_
     split
     · refine go_sliceBounds h1 h2 h3 fun n => go_sizeOf fun s => .pure (.slice _ _ ?_)
       split
       · exact ha
       · exact ha.add _
     · exact SRel.halt
   | pnil =>
     cases d <;> simp only [asAddr] <;> first | exact SRel.halt | exact go_panic
   | _ =>
     cases d <;> simp only [] <;> first | exact SRel.halt | exact go_stuck
end
section
variable [Env] {P : Program} {α β γ δ : Type} {Q : Ren -> γ -> δ -> Prop} {π : Ren}
theorem r_makeSlice (ok : POk P) {t : TypeId} (he : ∀ e, P.underlying t = some (.slice e) -> e < P.types.size) {l l' c c' : Value} (hl : VRel π l l') (hc : VRel π c c') : SRel P VQ π (Instr.makeSlice t l c) (Instr.makeSlice t l' c') := by
 unfold Instr.makeSlice
 refine go_underlying fun d hd => ?_
 split
 · rename_i elem
   refine go_asInt hl fun n => go_asInt hc fun m => go_typeInfo fun i hi => ?_
   simp only []
   split
   · split
     · exact go_panic
     · split
       · exact go_panic
       · exact go_choose fun _ => go_panic
   · refine go_askRoom (go_sizeOf fun s => ?_)
     by_cases h0 : (IntKind.i64.wrap m).toNat * s = 0
     · simp only [h0, if_true, pure_bind]
       exact go_newRow (VsRel.map _ fun i hi => by simp at hi) fun r r' _ ha => .pure (.slice _ _ ha)
     · simp only [if_neg h0]
       exact go_zeroValue ok (he elem hd) fun z hz => go_newRow (zeros_rel hz _ _) fun r r' _ ha => .pure (.slice _ _ ha)
 · exact SRel.halt
theorem r_len {ts : Array TypeId} {t : TypeId} {xs xs' : Array Value} (hx : VsRel π xs xs') : SRel P VQ π (Builtin.len_ ts t xs) (Builtin.len_ ts t xs') := by
 unfold Builtin.len_
 rcases hx.get? 0 with ⟨e, e'⟩ | ⟨x, x', e, e', hxx⟩
 · rw [e, e']; split <;> first | exact SRel.halt | (rename_i h; simp at h)
 · rw [e, e']
   cases ts[0]? with
   | none => exact SRel.halt
   | some t =>
     simp only []
     refine go_underlying fun d _ => ?_
     cases hxx with
     | string s => cases d <;> simp only [] <;> first | exact SRel.halt | exact .pure (.int _ _) | skip
                   refine go_underlying fun d _ => ?_
                   split <;> first | exact SRel.halt | exact .pure (.int _ _)
     | snil n c => cases d <;> simp only [] <;> first | exact SRel.halt | exact .pure (.int _ _) | skip
                   refine go_underlying fun d _ => ?_
                   split <;> first | exact SRel.halt | exact .pure (.int _ _)
     | slice n c ha => cases d <;> simp only [] <;> first | exact SRel.halt | exact .pure (.int _ _) | skip
                       refine go_underlying fun d _ => ?_
                       split <;> first | exact SRel.halt | exact .pure (.int _ _)
     | mnil => cases d <;> simp only [] <;> first | exact SRel.halt | exact .pure (.int _ _) | skip
               refine go_underlying fun d _ => ?_
               split <;> first | exact SRel.halt | exact .pure (.int _ _)
     | map hr => cases d <;> simp only [] <;> first | exact SRel.halt | exact .pure (.int _ _) | skip
                 · refine go_underlying fun d _ => ?_
                   split <;> first | exact SRel.halt | exact .pure (.int _ _)
                 · refine go_getObj hr fun o o' ho => ?_
                   cases o <;> first | exact SRel.halt | skip
                   cases o' <;> simp only [ORel] at ho
                   simp only []
                   rw [ho.1.1]
                   exact .pure (.int _ _)
     | _ => cases d <;> simp only [] <;> first | exact SRel.halt | exact .pure (.int _ _) | skip
            refine go_underlying fun d _ => ?_
            split <;> first | exact SRel.halt | exact .pure (.int _ _)
theorem go_lenOf {v v' : Value} (hv : VRel π v v') {f : Nat -> Sem γ} {g : Nat -> Sem δ} (h : ∀ n, SRel P Q π (f n) (g n)) : SRel P Q π (Builtin.lenOf v >>= f) (Builtin.lenOf v' >>= g) := by
 cases hv with
 | snil n c => exact h n
 | slice n c _ => exact h n
 | string s => exact h s.size
 | _ => exact go_stuck
theorem go_firstCells {v v' : Value} (hv : VRel π v v') {size n : Nat} {f : Array Value -> Sem γ} {g : Array Value -> Sem δ} (h : ∀ c c', VsRel π c c' -> SRel P Q π (f c) (g c')) : SRel P Q π (Builtin.firstCells size n v >>= f) (Builtin.firstCells size n v' >>= g) := by
 cases hv with
 | snil n c => exact h _ _ (.empty π)
 | slice _ c ha => exact go_loadCells ha h
 | string s => exact h _ _ (VsRel.map _ fun b _ => .int _ _)
 | _ => exact go_stuck
theorem zeroCells_rel {z : Value} (hz : Closed z) (n : Nat) : VsRel π (Builtin.zeroCells z.cells n) (Builtin.zeroCells z.cells n) := by
 unfold Builtin.zeroCells
 exact zeros_rel hz _ _
omit [Env] in
theorem MildS.holdsCells {a : Addr} {n : Nat} : MildS P (Builtin.holdsCells a n) := by
 unfold Builtin.holdsCells
 refine .bind .shape fun s => ?_
 split <;> exact .pure
omit [Env] in
theorem MildS.mayShare {size sLen n : Nat} {base : Option Addr} {x : Value} : MildS P (Builtin.mayShare size sLen n base x) := by
 unfold Builtin.mayShare
 cases base with
 | none =>
   refine .bind .pure fun there => ?_
   dsimp only
   cases there
   · simp only [Bool.not_false, if_true]; exact .pure
   · simp only [Bool.not_true, Bool.false_eq_true, if_false]
     split
     · exact .bind .holdsCells fun _ => .pure
     · exact .pure
 | some a =>
   refine .bind .holdsCells fun t1 => .bind .frozen fun t2 => .bind .pure fun there => ?_
   dsimp only
   cases there
   · simp only [Bool.not_false, if_true]; exact .pure
   · simp only [Bool.not_true, Bool.false_eq_true, if_false]
     split
     · exact .bind .holdsCells fun _ => .pure
     · exact .pure
theorem go_bool {b : Bool} (hb : b = false) {f : Bool -> Sem γ} {g : Bool -> Sem δ} (h : SRel P Q π (f false) (g false)) : SRel P Q π (pure b >>= f) (pure b >>= g) := by subst hb; exact h
set_option maxHeartbeats 4000000 in
theorem r_append (ok : POk P) {ts : Array TypeId} {t : TypeId} {xs xs' : Array Value} (hx : VsRel π xs xs') (he : ∀ x, ts[0]? = some x -> ∀ e, P.underlying x = some (.slice e) -> e < P.types.size) (hz : ∀ x, ts[1]? = some x -> ∀ k, P.underlying x ≠ some (.int k)) : SRel P VQ π (Builtin.append_ ts t xs) (Builtin.append_ ts t xs') := by
 unfold Builtin.append_
 rcases hx.get? 0 with ⟨e, e'⟩ | ⟨s, s', e, e', hs⟩
 · rw [e, e']; split <;> first | exact SRel.halt | (rename_i h; simp at h)
 rcases hx.get? 1 with ⟨e1, e1'⟩ | ⟨x, x', e1, e1', hxx⟩
 · rw [e, e', e1, e1']; split <;> first | exact SRel.halt | (rename_i h; simp at h)
 rw [e, e', e1, e1']
 cases h0 : ts[0]? with
 | none => exact SRel.halt
 | some sT =>
   simp only []
   refine go_underlying fun d hd0 => ?_
   cases d <;> simp only [] <;> try exact SRel.halt
   rename_i elem
   have helem := he _ h0 _ hd0
   cases hs with
   | snil n c =>
     refine go_sizeOf fun size => ?_
     cases hts : ts[1]? with
     | none =>
       simp only [Bool.false_eq_true, if_false, Bool.not_false, if_true, pure_bind, bind_assoc, false_or]
       refine go_lenOf hxx fun m => ?_
       split
       · exact go_firstCells hxx fun c c' hc => .pure (.snil _ _)
       · refine go_typeInfo fun i hi => ?_
         split
         · exact go_panic
         · refine go_typeInfo fun i2 hi2 => ?_
           split
           · exact .dead (DeadS.right MildS.mayShare fun b => DeadS.left (by split; exact .right .mark fun _ => .halt; exact .halt))
           · exact go_choose fun cap => go_typeInfo fun i3 _ => go_askRoom (go_firstCells (.snil n c) fun o o' ho => go_firstCells hxx fun c c' hc => go_zeroValue ok helem fun z hz => go_newRow ((ho.append hc).append (zeroCells_rel hz _)) fun r r' _ ha => .pure (.slice _ _ ha))
     | some xT =>
       refine go_underlying fun d hd => ?_
       refine go_bool (by cases d <;> first | rfl | exact absurd hd (hz _ hts _)) ?_
       simp only [Bool.false_eq_true, if_false, Bool.not_false, if_true, pure_bind, bind_assoc, false_or]
       refine go_lenOf hxx fun m => ?_
       split
       · exact go_firstCells hxx fun c c' hc => .pure (.snil _ _)
       · refine go_typeInfo fun i hi => ?_
         split
         · exact go_panic
         · refine go_typeInfo fun i2 hi2 => ?_
           split
           · exact .dead (DeadS.right MildS.mayShare fun b => DeadS.left (by split; exact .right .mark fun _ => .halt; exact .halt))
           · exact go_choose fun cap => go_typeInfo fun i3 _ => go_askRoom (go_firstCells (.snil n c) fun o o' ho => go_firstCells hxx fun c c' hc => go_zeroValue ok helem fun z hz => go_newRow ((ho.append hc).append (zeroCells_rel hz _)) fun r r' _ ha => .pure (.slice _ _ ha))
   | slice n c ha0 =>
     refine go_sizeOf fun size => ?_
     cases hts : ts[1]? with
     | none =>
       simp only [Bool.false_eq_true, if_false, Bool.not_false, if_true, pure_bind, bind_assoc, false_or]
       refine go_lenOf hxx fun m => ?_
       split
       · exact go_firstCells hxx fun c c' hc => go_storeCells (ha0.add _) (by exact SRel.pure (VRel.slice _ _ ha0)) 0 hc.toList
       · refine go_typeInfo fun i hi => ?_
         split
         · exact go_panic
         · refine go_typeInfo fun i2 hi2 => ?_
           split
           · exact .dead (DeadS.right MildS.mayShare fun b => DeadS.left (by split; exact .right .mark fun _ => .halt; exact .halt))
           · exact go_choose fun cap => go_typeInfo fun i3 _ => go_askRoom (go_firstCells (.slice n c ha0) fun o o' ho => go_firstCells hxx fun c c' hc => go_zeroValue ok helem fun z hz => go_newRow ((ho.append hc).append (zeroCells_rel hz _)) fun r r' _ ha => .pure (.slice _ _ ha))
     | some xT =>
       refine go_underlying fun d hd => ?_
       refine go_bool (by cases d <;> first | rfl | exact absurd hd (hz _ hts _)) ?_
       simp only [Bool.false_eq_true, if_false, Bool.not_false, if_true, pure_bind, bind_assoc, false_or]
       refine go_lenOf hxx fun m => ?_
       split
       · exact go_firstCells hxx fun c c' hc => go_storeCells (ha0.add _) (by exact SRel.pure (VRel.slice _ _ ha0)) 0 hc.toList
       · refine go_typeInfo fun i hi => ?_
         split
         · exact go_panic
         · refine go_typeInfo fun i2 hi2 => ?_
           split
           · exact .dead (DeadS.right MildS.mayShare fun b => DeadS.left (by split; exact .right .mark fun _ => .halt; exact .halt))
           · exact go_choose fun cap => go_typeInfo fun i3 _ => go_askRoom (go_firstCells (.slice n c ha0) fun o o' ho => go_firstCells hxx fun c c' hc => go_zeroValue ok helem fun z hz => go_newRow ((ho.append hc).append (zeroCells_rel hz _)) fun r r' _ ha => .pure (.slice _ _ ha))
   | _ => exact SRel.halt
end
section
variable [Env] {P : Program} {α β γ δ : Type} {Q : Ren -> γ -> δ -> Prop} {π : Ren}
def Scalar (P : Program) (t : TypeId) : Prop := ((∃ k, P.underlying t = some (.int k)) /\ ∀ i u, P.info? t = some i -> i.desc ≠ .named "sync.copyChecker" u) ∨ P.underlying t = some .string ∨ P.underlying t = some .bool
theorem go_numberAt {r r' : Nat} (hr : π r = some r') {f : Option (Addr × Bool) -> Sem γ} {g : Option (Addr × Bool) -> Sem δ} (h0 : SRel P Q π (f none) (g none)) (h1 : ∀ a a' b, ARel π a a' -> SRel P Q π (f (some (a, b))) (g (some (a', b)))) : SRel P Q π (numberAt r >>= f) (numberAt r' >>= g) := by
 unfold numberAt
 rw [bind_assoc, bind_assoc]
 refine go_shape hr fun s => ?_
 cases s with
 | some s => exact h0
 | none =>
   simp only [Option.isSome_none, Bool.false_eq_true, if_false]
   simp only [bind_assoc]
   refine go_getObj hr fun o o' ho => ?_
   cases o <;> cases o' <;> simp only [ORel] at ho
   case number.number => obtain ⟨ha, rfl⟩ := ho; exact h1 _ _ _ ha
   all_goals exact h0
theorem go_behind {a a' : Addr} (ha : ARel π a a') {f : Addr × Bool -> Sem γ} {g : Addr × Bool -> Sem δ} (h : ∀ a a' b, ARel π a a' -> SRel P Q π (f (a, b)) (g (a', b))) : SRel P Q π (behindNumber a >>= f) (behindNumber a' >>= g) := by
 unfold behindNumber
 rw [bind_assoc, bind_assoc]
 exact go_numberAt ha.1 (h _ _ _ ha) fun b b' l hb => h _ _ _ hb
theorem go_asNumber {a a' : Addr} (ha : ARel π a a') {l : Bool} {f : Value -> Sem γ} {g : Value -> Sem δ} (h : ∀ r r' v v', π r = none -> VRel (π.upd r r') v v' -> SRel P Q (π.upd r r') (f v) (g v')) : SRel P Q π (asNumber a l >>= f) (asNumber a' l >>= g) := by
 unfold asNumber
 rw [bind_assoc, bind_assoc]
 exact go_newObj ⟨ha, rfl⟩ rfl fun r r' hr _ hl => h r r' _ _ hr (.pointer ⟨Ren.upd_same π r r', rfl, rfl, hl⟩)
theorem r_ite {c : Prop} [Decidable c] {x y : Sem γ} {x' y' : Sem δ} (h1 : c -> SRel P Q π x x') (h2 : ¬ c -> SRel P Q π y y') : SRel P Q π (if c then x else y) (if c then x' else y') := by
 split
 · exact h1 (by assumption)
 · exact h2 (by assumption)
abbrev PQ [Env] : Ren -> Value -> Value -> Prop := fun π v v' => ∃ a a', v = .pointer (some a) /\ v' = .pointer (some a') /\ ARel π a a'
theorem r_unsafeAddP {ts : Array TypeId} {t : TypeId} {x x' y y' : Value} (hx : VRel π x x') (hy : VRel π y y') : SRel P PQ π (Builtin.unsafeAdd_ ts t #[x, y]) (Builtin.unsafeAdd_ ts t #[x', y']) := by
 unfold Builtin.unsafeAdd_
 cases hx with
 | pnil => exact go_asInt hy fun n => r_ite (fun _ => SRel.halt) fun _ => r_ite (fun _ => go_unsupported) fun _ => SRel.halt
 | pointer ha =>
   refine go_asInt hy fun n => r_ite (fun _ => go_viewAt ha.1 (.pure ⟨_, _, rfl, rfl, ha⟩)) fun _ => r_ite (fun _ => go_unsupported) fun _ => go_shape ha.1 fun s => ?_
   cases s with
   | none => exact SRel.halt
   | some s =>
     refine go_program ?_
     rw [<- ha.2.1]
     split
     · exact .pure ⟨_, _, rfl, rfl, ha.1, rfl, ha.2.2⟩
     · exact SRel.halt
 | _ => exact SRel.halt
theorem r_unsafeAdd {ts : Array TypeId} {t : TypeId} {x x' y y' : Value} (hx : VRel π x x') (hy : VRel π y y') : SRel P VQ π (Builtin.unsafeAdd_ ts t #[x, y]) (Builtin.unsafeAdd_ ts t #[x', y']) :=
 (r_unsafeAddP hx hy).mono fun _ _ _ _ ⟨_, _, e, e', h⟩ => by rw [e, e']; exact .pointer h
theorem r_moved {t : TypeId} {x x' y y' : Value} (hx : VRel π x x') (hy : VRel π y y') : SRel P VQ π (movedNumber t x y) (movedNumber t x' y') := by
 unfold movedNumber
 refine go_underlying fun d hd => r_ite (fun _ => go_unsupported) fun _ => ?_
 · cases hx with
   | pointer ha =>
     refine go_behind ha fun b b' l hb => ?_
     refine SRel.bind' (r_unsafeAddP (.pointer hb) hy) fun π' v v' _ ⟨a, a', e, e', hc⟩ => ?_
     subst e e'
     have := go_asNumber (P := P) (Q := VQ) (f := pure) (g := pure) (l := l) hc fun r r' v v' _ h => .pure h
     rw [bind_pure, bind_pure] at this
     exact this
   | junk h => exact SRel.halt
   | _ => exact r_unsafeAdd (by constructor <;> assumption) hy
theorem r_movedP {t : TypeId} {x x' y y' : Value} (hx : VRel π x x') (hy : VRel π y y') : SRel P VQ π (movedPointer t x y) (movedPointer t x' y') := by
 unfold movedPointer
 cases hx with
 | pointer ha => exact go_numberAt ha.1 (r_unsafeAdd (ts := #[]) (t := t) (.pointer ha) hy) fun b b' l hb => go_unsupported
 | junk h => exact SRel.halt
 | _ => exact r_unsafeAdd (by constructor <;> assumption) hy
theorem dead_two (ok : POk P) {a b : Addr} (ha : Env.low <= a.block) {f : Nat × Nat -> Sem γ} {y : Sem δ} : SRel P Q π (Op.twoPlaces a b >>= f) y := by
 have hd : DeadS P (Op.twoPlaces a b) := by
   unfold Op.twoPlaces
   intro u
   have hl := ok.low
   have hb : (a.block != b.block || decide (a.block ≥ P.globals.size)) = true := by
     have : P.globals.size <= a.block := Nat.le_trans hl ha
     simp [this]
   simp only [program, Sem.run_bind, Sem.run, Result.andThen_ok]
   rw [if_pos hb]
   exact ⟨.unsupported .addressObserved, u, by simp [unsupported, Sem.run_bind, Sem.run, Result.andThen], trivial, .refl u⟩
 exact go_dead hd
omit [Env] in
theorem dead_typeInfo {t : TypeId} {f : TypeInfo -> Sem γ} (h : ∀ i, P.info? t = some i -> DeadS P (f i)) : DeadS P (typeInfo t >>= f) := by
 intro u
 unfold typeInfo program
 simp only [Sem.run_bind, Sem.run, Result.andThen_ok]
 cases hi : P.info? t with
 | none => exact ⟨.stuck "no such type", u, by simp [stuck, Result.andThen], trivial, .refl u⟩
 | some i => exact h i hi u
abbrev BQ : Ren -> Bool -> Bool -> Prop := fun _ a b => a = b
theorem r_equal (ok : POk P) {t : TypeId} (hS : Scalar P t) {x x' y y' : Value} (hx : VRel π x x') (hy : VRel π y y') : SRel P BQ π (Op.equal t x y) (Op.equal t x' y') := by
 unfold Op.equal Op.maxDepth
 rw [show (10000 : Nat) = 9999 + 1 from rfl, Op.equalIn, Op.equalIn]
 refine go_underlying fun d hd => ?_
 rcases hS with ⟨⟨k, hk⟩, hc⟩ | hk | hk <;> rw [hk] at hd <;> cases hd
 · cases hx with
   | int k n =>
     cases hy with
     | int k' n' => exact r_ite (fun _ => .pure rfl) fun _ => SRel.halt
     | pnil => exact SRel.halt
     | pointer ha =>
       cases n with
       | ofNat m =>
         cases m with
         | zero => exact .pure rfl
         | succ m => exact SRel.halt
       | negSucc m => exact SRel.halt
     | _ => exact SRel.halt
   | pnil => cases hy <;> exact SRel.halt
   | pointer ha =>
     cases hy with
     | int k' n' =>
       cases n' with
       | ofNat m =>
         cases m with
         | zero => exact .pure rfl
         | succ m => exact SRel.halt
       | negSucc m => exact SRel.halt
     | pointer hb =>
       refine go_behind ha fun a a' l ha => go_behind hb fun b b' l' hb => go_program (.dead ?_)
       have hl : ¬ (a.block == b.block && decide (a.block < P.globals.size)) = true := by
         have : P.globals.size <= a.block := Nat.le_trans ok.low ha.2.2.2
         simp; intro _; omega
       show DeadS P (if (a.block == b.block && decide (a.block < P.globals.size)) = true then _ else _)
       rw [if_neg hl]
       refine dead_typeInfo fun i hi => ?_
       split
       · exact absurd (by assumption) (hc i _ hi)
       · exact .halt
     | _ => exact SRel.halt
   | _ => cases hy <;> exact SRel.halt
 · cases hx with
   | string a =>
     cases hy with
     | string b => exact .pure rfl
     | _ => exact SRel.halt
   | _ => cases hy <;> exact SRel.halt
 · cases hx with
   | bool a =>
     cases hy with
     | bool b => exact .pure rfl
     | _ => exact SRel.halt
   | _ => cases hy <;> exact SRel.halt
end
section
variable [Env] {P : Program} {α β γ δ : Type} {Q : Ren -> γ -> δ -> Prop} {π : Ren}
theorem r_ints {op : BinOp} {t : TypeId} {k k' : IntKind} {a b : Int} : SRel P VQ π (binOp op t (.int k a) (.int k' b)) (binOp op t (.int k a) (.int k' b)) := by
 have hsh : ∀ op, SRel P VQ π (Op.shift op k a k' b) (Op.shift op k a k' b) := by
   intro op
   unfold Op.shift
   refine r_ite (fun _ => .dead dead_panic) fun _ => ?_
   cases op <;> first | exact .pure (.int _ _) | exact SRel.halt
 cases op with
 | shl => exact hsh .shl
 | shr => exact hsh .shr
 | quo => exact r_ite (fun _ => SRel.halt) fun _ => r_ite (fun _ => .dead dead_panic) fun _ => .pure (.int _ _)
 | rem => exact r_ite (fun _ => SRel.halt) fun _ => r_ite (fun _ => .dead dead_panic) fun _ => .pure (.int _ _)
 | eql => exact r_ite (fun _ => SRel.halt) fun _ => .pure (.bool _)
 | neq => exact r_ite (fun _ => SRel.halt) fun _ => .pure (.bool _)
 | lss => exact r_ite (fun _ => SRel.halt) fun _ => .pure (.bool _)
 | leq => exact r_ite (fun _ => SRel.halt) fun _ => .pure (.bool _)
 | gtr => exact r_ite (fun _ => SRel.halt) fun _ => .pure (.bool _)
 | geq => exact r_ite (fun _ => SRel.halt) fun _ => .pure (.bool _)
 | _ => exact r_ite (fun _ => SRel.halt) fun _ => .pure (.int _ _)
theorem r_strings {op : BinOp} {t : TypeId} {a b : ByteArray} : SRel P VQ π (binOp op t (.string a) (.string b)) (binOp op t (.string a) (.string b)) := by
 cases op <;> first | exact .pure (.bool _) | exact SRel.halt | skip
 exact r_ite (fun _ => SRel.halt) fun _ => .pure (.string _)
def EqOp (op : BinOp) : Prop := op = .eql ∨ op = .neq
omit [Env] in
theorem dead_under {t : TypeId} {f : TypeDesc -> Sem γ} (h : ∀ d, P.underlying t = some d -> DeadS P (f d)) : DeadS P (underlying t >>= f) := by
 intro u
 unfold underlying program
 simp only [Sem.run_bind, Sem.run, Result.andThen_ok]
 cases hi : P.underlying t with
 | none => exact ⟨.stuck "no such type", u, by simp [stuck, Result.andThen], trivial, .refl u⟩
 | some i => exact h i hi u
omit [Env] in
theorem dead_equalL {t : TypeId} (hS : Scalar P t) {z y : Value} : DeadS P (Op.equal t (junkV z) y) := by
 unfold Op.equal Op.maxDepth
 rw [show (10000 : Nat) = 9999 + 1 from rfl, Op.equalIn]
 refine dead_under fun d hd => ?_
 rcases hS with ⟨⟨k, hk⟩, hc⟩ | hk | hk <;> rw [hk] at hd <;> cases hd <;> (rcases y with _ | _ | _ | _ | _ | (_ | _) | _ | _ | _ | _ | _ | _ | _ | _ | _) <;> first | exact .halt | exact DeadS.halt (h := .unsupported .addressObserved)
omit [Env] in
theorem dead_equalR {t : TypeId} (hS : Scalar P t) {z x : Value} : DeadS P (Op.equal t x (junkV z)) := by
 unfold Op.equal Op.maxDepth
 rw [show (10000 : Nat) = 9999 + 1 from rfl, Op.equalIn]
 refine dead_under fun d hd => ?_
 rcases hS with ⟨⟨k, hk⟩, hc⟩ | hk | hk <;> rw [hk] at hd <;> cases hd <;> (rcases x with _ | _ | _ | _ | _ | (_ | _) | _ | _ | _ | _ | _ | _ | _ | _ | _) <;> first | exact .halt | exact DeadS.halt (h := .unsupported .addressObserved)
theorem r_eql (ok : POk P) {t : TypeId} (hS : Scalar P t) {x x' y y' : Value} (hx : VRel π x x') (hy : VRel π y y') : SRel P VQ π (do pure (.bool (<- Op.equal t x y))) (do pure (.bool (<- Op.equal t x' y'))) :=
 SRel.bind' (r_equal ok hS hx hy) fun π' a b _ e => by subst e; exact .pure (.bool _)
theorem r_neq (ok : POk P) {t : TypeId} (hS : Scalar P t) {x x' y y' : Value} (hx : VRel π x x') (hy : VRel π y y') : SRel P VQ π (do pure (.bool (!(<- Op.equal t x y)))) (do pure (.bool (!(<- Op.equal t x' y')))) :=
 SRel.bind' (r_equal ok hS hx hy) fun π' a b _ e => by subst e; exact .pure (.bool _)
theorem r_addrMod {k : IntKind} {a a' : Addr} (ha : ARel π a a') {n : Int} : SRel P VQ π (Op.addrMod k a n) (Op.addrMod k a' n) := by
 unfold Op.addrMod
 refine go_shape ha.1 fun s => ?_
 cases s with
 | none => exact SRel.halt
 | some s => exact go_typeInfo fun i _ => r_ite (fun _ => go_unsupported) fun _ => go_byteOf ha fun n => .pure (.int _ _)
set_option maxHeartbeats 0 in
theorem r_binOp (ok : POk P) {op : BinOp} {t : TypeId} (hS : EqOp op -> Scalar P t) {x x' y y' : Value} (hx : VRel π x x') (hy : VRel π y y') : SRel P VQ π (binOp op t x y) (binOp op t x' y') := by
 have he : op = .eql -> SRel P VQ π (do pure (.bool (<- Op.equal t x y))) (do pure (.bool (<- Op.equal t x' y'))) := fun e => r_eql ok (hS (.inl e)) hx hy
 have hn : op = .neq -> SRel P VQ π (do pure (.bool (!(<- Op.equal t x y)))) (do pure (.bool (!(<- Op.equal t x' y')))) := fun e => r_neq ok (hS (.inr e)) hx hy
 by_cases hE : op = .eql
 · subst hE
   cases hx <;> cases hy <;> first | exact he rfl | exact r_ints | exact r_strings | exact go_dead (dead_equalL (hS (.inl rfl))) | exact go_dead (dead_equalR (hS (.inl rfl)))
 by_cases hN : op = .neq
 · subst hN
   cases hx <;> cases hy <;> first | exact hn rfl | exact r_ints | exact r_strings | exact go_dead (dead_equalL (hS (.inr rfl))) | exact go_dead (dead_equalR (hS (.inr rfl)))
 clear he hn
 cases op <;> first | exact absurd rfl hE | exact absurd rfl hN | skip
 all_goals
   cases hx with
   | int k a =>
     cases hy with
     | int k' b => exact r_ints
     | pointer hb => first
       | exact SRel.halt
       | exact r_moved (.pointer hb) (.int _ _)
       | exact go_behind hb fun _ _ _ hc => r_addrMod hc
     | pnil => first
       | exact SRel.halt
       | exact r_moved .pnil (.int _ _)
     | _ => exact SRel.halt
   | string a =>
     cases hy with
     | string b => exact r_strings
     | _ => exact SRel.halt
   | pnil =>
     cases hy with
     | int k b => first
       | exact SRel.halt
       | exact go_underlying fun d _ => r_ite (fun _ => r_movedP .pnil (.int _ _)) fun _ => r_moved .pnil (.int _ _)
       | exact r_moved .pnil (.int _ _)
     | _ => exact SRel.halt
   | pointer ha =>
     cases hy with
     | int k b => first
       | exact SRel.halt
       | exact go_underlying fun d _ => r_ite (fun _ => r_movedP (.pointer ha) (.int _ _)) fun _ => r_moved (.pointer ha) (.int _ _)
       | exact r_moved (.pointer ha) (.int _ _)
       | exact go_behind ha fun _ _ _ hc => r_addrMod hc
     | pointer hb => first
       | exact SRel.halt
       | exact go_behind ha fun _ _ _ hc => go_behind hb fun _ _ _ _ => dead_two ok hc.2.2.2
     | _ => exact SRel.halt
   | _ => cases hy <;> exact SRel.halt
end
section
variable [Env] {P : Program} {α β γ δ : Type} {Q : Ren -> γ -> δ -> Prop} {π : Ren}
def ConvOk (P : Program) (src dst : TypeId) : Prop :=
 (∃ k k', P.underlying src = some (.int k) /\ P.underlying dst = some (.int k')) ∨
 (∃ e, P.underlying src = some (.slice e) /\ P.underlying e = some (.int .u8) /\ P.underlying dst = some .string)
theorem go_forIn {σ : Type} {F F' : Value -> σ -> Sem (ForInStep σ)} (hF : ∀ {v v' : Value} {s : σ} {k : ForInStep σ -> Sem γ} {k' : ForInStep σ -> Sem δ}, VRel π v v' -> (∀ r, SRel P Q π (k r) (k' r)) -> SRel P Q π (F v s >>= k) (F' v' s >>= k')) : ∀ {l l' : List Value} (b : σ), LsRel π l l' -> {f : σ -> Sem γ} -> {g : σ -> Sem δ} -> (∀ b, SRel P Q π (f b) (g b)) -> SRel P Q π (forIn l b F >>= f) (forIn l' b F' >>= g)
 | _, _, b, .nil, f, g, h => by rw [List.forIn_nil, List.forIn_nil]; exact h b
 | _, _, b, .cons hv hl, f, g, h => by
   rw [List.forIn_cons, List.forIn_cons, bind_assoc, bind_assoc]
   refine hF hv fun r => ?_
   cases r with
   | done b => exact h b
   | yield b => exact go_forIn (F := F) (F' := F') (fun hv hk => hF hv hk) b hl h
theorem r_bytesToString {x x' : Value} (hx : VRel π x x') : SRel P VQ π (Conv.bytesToString x) (Conv.bytesToString x') := by
 unfold Conv.bytesToString
 cases hx with
 | snil n c => exact .pure (.string _)
 | slice n c ha =>
   refine go_loadCells ha fun cs cs' hc => ?_
   rw [<- Array.forIn_toList, <- Array.forIn_toList]
   refine go_forIn (fun {v v' s k k'} hv hk => ?_) _ hc.toList fun b => .pure (.string _)
   cases hv with
   | int i n => cases i <;> first | exact SRel.halt | exact hk _
   | _ => exact SRel.halt
 | _ => exact SRel.halt
theorem r_convert {s d : TypeId} (hC : ConvOk P s d) {x x' : Value} (hx : VRel π x x') : SRel P VQ π (convert s d x) (convert s d x') := by
 unfold convert
 refine go_underlying fun a ha => go_underlying fun b hb => ?_
 rcases hC with ⟨k, k', h1, h2⟩ | ⟨e, h1, h2, h3⟩
 · rw [h1] at ha; rw [h2] at hb; cases ha; cases hb
   cases hx with
   | int k n => exact .pure (.int _ _)
   | _ => exact SRel.halt
 · rw [h1] at ha; rw [h3] at hb; cases ha; cases hb
   cases hx with
   | string s => exact .pure (.string _)
   | int k n => unfold Conv.intToString; exact .pure (.string _)
   | junk _ => exact .dead (dead_under fun d hd => by rw [h2] at hd; cases hd; exact .halt)
   | _ =>
     refine go_underlying fun d hd => ?_
     rw [h2] at hd; cases hd
     exact r_bytesToString (by constructor <;> assumption)
theorem go_asc {x : Sem α} {x' : Sem β} {α' β' : Type} {k : α -> Sem α'} {k' : β -> Sem β'} {f : α' -> Sem γ} {g : β' -> Sem δ} (h : SRel P Q π (x >>= fun a => k a >>= f) (x' >>= fun a => k' a >>= g)) : SRel P Q π ((x >>= k) >>= f) ((x' >>= k') >>= g) := by
 rw [bind_assoc, bind_assoc]; exact h
theorem go_ite {c : Prop} [Decidable c] {x y : Sem α} {x' y' : Sem β} {f : α -> Sem γ} {g : β -> Sem δ} (h1 : c -> SRel P Q π (x >>= f) (x' >>= g)) (h2 : ¬ c -> SRel P Q π (y >>= f) (y' >>= g)) : SRel P Q π ((if c then x else y) >>= f) ((if c then x' else y') >>= g) := by
 by_cases hc : c
 · rw [if_pos hc, if_pos hc]; exact h1 hc
 · rw [if_neg hc, if_neg hc]; exact h2 hc
theorem go_eqGuardIn {t : TypeId} (hS : Scalar P t) {x x' y y' : Value} {f : Bool -> Sem γ} {g : Bool -> Sem δ} (h : SRel P Q π (f false) (g false)) : SRel P Q π (Op.eqGuardIn Op.maxDepth t x y >>= f) (Op.eqGuardIn Op.maxDepth t x' y' >>= g) := by
 unfold Op.maxDepth
 rw [show (10000 : Nat) = 9999 + 1 from rfl, Op.eqGuardIn, Op.eqGuardIn]
 simp only [bind_assoc]
 refine go_underlying fun d hd => ?_
 rcases hS with ⟨⟨k, hk⟩, _⟩ | hk | hk <;> rw [hk] at hd <;> cases hd <;> exact h
theorem go_eqGuard {op : BinOp} {t : TypeId} {a b : Operand} (hS : EqOp op -> Scalar P t) {x x' y y' : Value} (hx : VRel π x x') (hy : VRel π y y') {f : Unit -> Sem γ} {g : Unit -> Sem δ} (h : SRel P Q π (f ()) (g ())) : SRel P Q π (eqGuard op t a b x y >>= f) (eqGuard op t a b x' y' >>= g) := by
 unfold eqGuard
 by_cases hE : EqOp op
 · have hs := hS hE
   rcases hE with rfl | rfl
   all_goals
     cases hx with
     | nilIface =>
       cases hy with
       | nilIface => exact go_ite (fun _ => h) fun _ => go_ite (fun _ => h) fun _ => go_asc (go_eqGuardIn hs h)
       | @junk y' k => (cases y' <;> first | exact h | exact k.elim)
       | _ => exact h
     | agg e1 h1 =>
       cases hy with
       | agg e2 h2 => exact go_ite (fun _ => h) fun _ => go_asc (go_program (go_asc (go_program (go_ite (fun _ => h) fun _ => go_asc (go_eqGuardIn hs h)))))
       | @junk y' k => (cases y' <;> first | exact h | exact k.elim)
       | _ => exact h
     | @junk x' k => (cases x' <;> first | exact k.elim | exact h)
     | _ => cases hy <;> exact h
 · cases op <;> first | exact absurd (Or.inl rfl) hE | exact absurd (Or.inr rfl) hE | exact h
end
section
variable [Env] {P : Program} {α β γ δ : Type} {Q : Ren -> γ -> δ -> Prop} {π : Ren}
theorem r_extract {v v' : Value} (hv : VRel π v v') {i : Nat} : SRel P VQ π (Instr.extract v i) (Instr.extract v' i) := by
 cases hv with
 | tuple h1 h2 =>
   rename_i c c'
   have h : VsRel π c c' := ⟨h1, h2⟩
   unfold Instr.extract
   rcases h.get? i with ⟨e1, e2⟩ | ⟨x, y, e1, e2, e3⟩
   · simp only [e1, e2]; exact SRel.halt
   · simp only [e1, e2]; exact .pure e3
 | _ => exact SRel.halt
theorem ERel.empty : ERel π #[] #[] := ⟨rfl, fun i e e' h => by simp at h⟩
theorem ERel.push {es es' : Array MapEntry} (h : ERel π es es') {e e' : MapEntry} (hk : VRel π e.key e'.key) (hv : VRel π e.val e'.val) (hb : e.born = e'.born) : ERel π (es.push e) (es'.push e') := by
 refine ⟨by simp [h.1], fun i x x' hx hx' => ?_⟩
 rw [Array.getElem?_push] at hx hx'
 rw [<- h.1] at hx'
 split at hx
 · rename_i hi
   rw [if_pos hi] at hx'
   cases hx; cases hx'
   exact ⟨hk, hv, hb⟩
 · rename_i hi
   rw [if_neg hi] at hx'
   exact h.2 i x x' hx hx'
theorem ERel.modify {es es' : Array MapEntry} (h : ERel π es es') {n : Nat} {f f' : MapEntry -> MapEntry} (hf : ∀ e e', VRel π e.key e'.key -> VRel π e.val e'.val -> e.born = e'.born -> VRel π (f e).key (f' e').key /\ VRel π (f e).val (f' e').val /\ (f e).born = (f' e').born) : ERel π (es.modify n f) (es'.modify n f') := by
 refine ⟨by simp [h.1], fun i x x' hx hx' => ?_⟩
 rw [Array.getElem?_modify] at hx hx'
 split at hx
 · rename_i hi
   rw [if_pos hi] at hx'
   cases e1 : es[i]? with
   | none => rw [e1] at hx; cases hx
   | some a =>
     cases e2 : es'[i]? with
     | none => rw [e2] at hx'; cases hx'
     | some b =>
       rw [e1] at hx; rw [e2] at hx'
       cases hx; cases hx'
       obtain ⟨h1, h2, h3⟩ := h.2 i a b e1 e2
       exact hf a b h1 h2 h3
 · rename_i hi
   rw [if_neg hi] at hx'
   exact h.2 i x x' hx hx'
theorem ERel.erase {es es' : Array MapEntry} (h : ERel π es es') {n : Nat} : ERel π (es.eraseIdxIfInBounds n) (es'.eraseIdxIfInBounds n) := by
 unfold Array.eraseIdxIfInBounds
 by_cases hn : n < es.size
 · have hn' : n < es'.size := by rw [<- h.1]; exact hn
   rw [dif_pos hn, dif_pos hn']
   refine ⟨by simp [Array.size_eraseIdx, h.1], fun i x x' hx hx' => ?_⟩
   rw [Array.getElem?_eraseIdx] at hx hx'
   split at hx
   · rename_i hi
     rw [if_pos hi] at hx'
     exact h.2 _ x x' hx hx'
   · rename_i hi
     rw [if_neg hi] at hx'
     exact h.2 _ x x' hx hx'
 · have hn' : ¬ n < es'.size := by rw [<- h.1]; exact hn
   rw [dif_neg hn, dif_neg hn']
   exact h
def IsJunk (v : Value) : Prop := ∃ i, v = junkV i
theorem sameNow_rel {kind : TypeDesc} {k k' a a' : Value} (hk : VRel π k k') (ha : VRel π a a') (nk : ¬ IsJunk k) (na : ¬ IsJunk a) : Instr.sameNow kind k a = Instr.sameNow kind k' a' := by
 cases hk <;> cases ha <;> first | exact absurd ⟨_, rfl⟩ nk | exact absurd ⟨_, rfl⟩ na | rfl | (cases kind <;> rfl)
omit [Env] in
theorem sameNow_tuple {kind : TypeDesc} {k a : Value} (h : IsJunk k ∨ IsJunk a) : Instr.sameNow kind k a = none := by
 rcases h with ⟨_, rfl⟩ | ⟨_, rfl⟩
 · cases kind <;> rfl
 · cases kind <;> cases k <;> rfl
omit [Env] in
theorem equal_false {kt : TypeId} {kind : TypeDesc} (hd : P.underlying kt = some kind) {k a : Value} (h : Instr.sameNow kind k a = some false) (u : World) : (Op.equal kt k a).run P u = .ok false u := by
 unfold Op.equal Op.maxDepth
 rw [show (10000 : Nat) = 9999 + 1 from rfl, Op.equalIn]
 unfold underlying program
 simp only [Sem.run_bind, Sem.run, Result.andThen_ok, hd]
 unfold Instr.sameNow at h
 split at h
 · split at h
   · rename_i hk
     subst hk
     simp only [Option.some.injEq] at h
     simp [h]
   · cases h
 · simp only [Option.some.injEq] at h; simp [h]
 · simp only [Option.some.injEq] at h; simp [h]
 · cases h
def FRel (π : Ren) : Option (Nat × Value) -> Option (Nat × Value) -> Prop
 | none, none => True
 | some (i, v), some (j, v') => i = j /\ VRel π v v'
 | _, _ => False
def LERel (π : Ren) (l l' : List MapEntry) : Prop := l.length = l'.length /\ ∀ (i : Nat) e e', l[i]? = some e -> l'[i]? = some e' -> VRel π e.key e'.key /\ VRel π e.val e'.val /\ e.born = e'.born
theorem LERel.cons {e e' : MapEntry} {l l' : List MapEntry} (h : LERel π (e :: l) (e' :: l')) : (VRel π e.key e'.key /\ VRel π e.val e'.val) /\ LERel π l l' := by
 obtain ⟨h1, h2⟩ := h
 obtain ⟨a, b, -⟩ := h2 0 e e' rfl rfl
 exact ⟨⟨a, b⟩, by simpa using h1, fun i x x' hx hx' => h2 (i + 1) x x' (by simpa using hx) (by simpa using hx')⟩
theorem ERel.toList {es es' : Array MapEntry} (h : ERel π es es') : LERel π es.toList es'.toList := ⟨by simpa using h.1, fun i e e' h1 h2 => h.2 i e e' (by simpa using h1) (by simpa using h2)⟩
omit [Env] in
theorem dead_asking {kt : TypeId} (hS : Scalar P kt) {k : Value} {e : MapEntry} {l : List MapEntry} {i : Nat} (h : IsJunk k ∨ IsJunk e.key) : DeadS P (Instr.findAsking kt k (e :: l) i) := by
 unfold Instr.findAsking
 refine DeadS.left ?_
 rcases h with ⟨_, rfl⟩ | ⟨_, h⟩
 · exact dead_equalL hS
 · rw [h]; exact dead_equalR hS
omit [Env] in
theorem dead_asking_on {kt : TypeId} {kind : TypeDesc} (hd : P.underlying kt = some kind) {k : Value} {e : MapEntry} {l : List MapEntry} {i : Nat} (h : Instr.sameNow kind k e.key = some false) (hl : DeadS P (Instr.findAsking kt k l (i + 1))) : DeadS P (Instr.findAsking kt k (e :: l) i) := by
 intro u
 obtain ⟨hh, u', e1, m⟩ := hl u
 refine ⟨hh, u', ?_, m⟩
 unfold Instr.findAsking
 rw [Sem.run_bind, equal_false hd h]
 exact e1
theorem findNow_rel {kt : TypeId} {kind : TypeDesc} (hS : Scalar P kt) (hd : P.underlying kt = some kind) {k k' : Value} (hk : VRel π k k') : ∀ {l l' : List MapEntry} (i : Nat), LERel π l l' ->
   (Instr.findNow kind k l i = none /\ Instr.findNow kind k' l' i = none) ∨ (∃ r r', Instr.findNow kind k l i = some r /\ Instr.findNow kind k' l' i = some r' /\ FRel π r r') ∨
     (Instr.findNow kind k l i = none /\ ∀ j, DeadS P (Instr.findAsking kt k l j))
 | [], [], _, _ => .inr (.inl ⟨none, none, rfl, rfl, trivial⟩)
 | [], _ :: _, _, h => by cases h.1
 | _ :: _, [], _, h => by cases h.1
 | e :: l, e' :: l', i, h => by
   obtain ⟨⟨h1, h2⟩, h3⟩ := h.cons
   by_cases hj : IsJunk k ∨ IsJunk e.key
   · refine .inr (.inr ⟨?_, fun j => dead_asking hS hj⟩)
     unfold Instr.findNow
     rw [sameNow_tuple hj]
   have hs := sameNow_rel (kind := kind) hk h1 (fun e => hj (.inl e)) (fun e => hj (.inr e))
   unfold Instr.findNow
   rw [<- hs]
   cases hb : Instr.sameNow kind k e.key with
   | none => exact .inl ⟨rfl, rfl⟩
   | some b =>
     cases b with
     | true => exact .inr (.inl ⟨_, _, rfl, rfl, rfl, h2⟩)
     | false =>
       rcases findNow_rel hS hd hk (i + 1) h3 with x | x | ⟨x, y⟩
       · exact .inl x
       · exact .inr (.inl x)
       · exact .inr (.inr ⟨x, fun j => dead_asking_on hd hb (y (j + 1))⟩)
theorem LERel.mono {π π' : Ren} (h : π.le π') {l l' : List MapEntry} (x : LERel π l l') : LERel π' l l' := ⟨x.1, fun i e e' h1 h2 => let ⟨a, b, c⟩ := x.2 i e e' h1 h2; ⟨a.mono h, b.mono h, c⟩⟩
theorem r_findAsking (ok : POk P) {kt : TypeId} (hS : Scalar P kt) : ∀ {π : Ren} {k k' : Value} {l l' : List MapEntry} (i : Nat), VRel π k k' -> LERel π l l' -> SRel P FRel π (Instr.findAsking kt k l i) (Instr.findAsking kt k' l' i)
 | _, _, _, [], [], _, _, _ => .pure trivial
 | _, _, _, [], _ :: _, _, _, h => by cases h.1
 | _, _, _, _ :: _, [], _, _, h => by cases h.1
 | π, k, k', e :: l, e' :: l', i, hk, h => by
   obtain ⟨⟨h1, h2⟩, h3⟩ := h.cons
   unfold Instr.findAsking
   refine SRel.bind' (r_equal ok hS hk h1) fun π' a b hle e => ?_
   subst e
   cases a with
   | true => exact .pure ⟨rfl, h2.mono hle⟩
   | false => exact r_findAsking ok hS (i + 1) (hk.mono hle) (h3.mono hle)
theorem r_findKey (ok : POk P) {kt : TypeId} (hS : Scalar P kt) {k k' : Value} (hk : VRel π k k') {l l' : List MapEntry} (h : LERel π l l') : SRel P FRel π (Instr.findKey kt k l) (Instr.findKey kt k' l') := by
 unfold Instr.findKey
 refine go_underlying fun d hd => ?_
 rcases findNow_rel (kind := d) hS hd hk 0 h with ⟨e1, e2⟩ | ⟨r, r', e1, e2, hr⟩ | ⟨e1, e2⟩
 · simp only [e1, e2]
   exact r_findAsking ok hS 0 hk h
 · simp only [e1, e2]
   exact .pure hr
 · simp only [e1]
   exact .dead (e2 0)
theorem go_checkKey {b b' : Bool} {kt : TypeId} (hS : Scalar P kt) {k k' : Value} {f : Unit -> Sem γ} {g : Unit -> Sem δ} (h : SRel P Q π (f ()) (g ())) : SRel P Q π (Instr.checkKey b 10000 kt k >>= f) (Instr.checkKey b' 10000 kt k' >>= g) := by
 rw [show (10000 : Nat) = 9999 + 1 from rfl]
 unfold Instr.checkKey
 rw [bind_assoc, bind_assoc]
 refine go_underlying fun d hd => ?_
 rcases hS with ⟨⟨k, hk⟩, -⟩ | hk | hk <;> rw [hk] at hd <;> cases hd <;> exact h
theorem r_makeMap {t : TypeId} : SRel P VQ π (Instr.makeMap t none) (Instr.makeMap t none) := by
 unfold Instr.makeMap
 exact go_newObj (show ORel π (.map #[] 0) (.map #[] 0) from ⟨ERel.empty, rfl⟩) rfl fun r r' _ _ _ => .pure (.map (by simp [Ren.upd]))
theorem r_lookup (ok : POk P) {t : TypeId} (hm : ∀ kt el, P.underlying t = some (.map kt el) -> Scalar P kt /\ el < P.types.size) {x x' k k' : Value} (hx : VRel π x x') (hk : VRel π k k') {c : Bool} : SRel P VQ π (Instr.lookup t x k c) (Instr.lookup t x' k' c) := by
 unfold Instr.lookup
 refine go_underlying fun d hd => ?_
 cases d <;> first | exact SRel.halt | skip
 rename_i kt el
 obtain ⟨hS, hl⟩ := hm kt el hd
 have key : ∀ {es es' : Array MapEntry}, ERel π es es' -> SRel P VQ π (do
     Instr.checkKey es.isEmpty 10000 kt k
     let (v, ok) <- match <- Instr.findKey kt k es.toList with
       | some (_, v) => pure (v, true)
       | none => pure (<- zeroValue el, false)
     pure (if c then .tuple #[v, .bool ok] else v)) (do
     Instr.checkKey es'.isEmpty 10000 kt k'
     let (v, ok) <- match <- Instr.findKey kt k' es'.toList with
       | some (_, v) => pure (v, true)
       | none => pure (<- zeroValue el, false)
     pure (if c then .tuple #[v, .bool ok] else v)) := by
   intro es es' he
   refine go_checkKey hS ?_
   refine SRel.bind' (r_findKey ok hS hk he.toList) fun π' r r' hle hr => ?_
   have hpair : ∀ {v v' : Value}, VRel π' v v' -> ∀ b : Bool, VRel π' (if c then .tuple #[v, .bool b] else v) (if c then .tuple #[v', .bool b] else v') := fun {v v'} hv b => by
     cases c with
     | false => exact hv
     | true =>
       have h : VsRel π' #[v, .bool b] #[v', .bool b] := ((VsRel.empty π').push hv).push (.bool b)
       exact .tuple h.1 h.2
   cases r with
   | none =>
     cases r' with
     | some _ => exact hr.elim
     | none => exact go_zeroValue ok hl fun v hv => .pure (hpair (hv _) false)
   | some a =>
     cases r' with
     | none => exact hr.elim
     | some b => exact .pure (hpair hr.2 true)
 cases hx with
 | mnil => exact key ERel.empty
 | map hr =>
   refine go_getObj hr fun o o' ho => ?_
   cases o <;> cases o' <;> first | exact ho.elim | exact SRel.halt | skip
   exact key ho.1
 | _ => exact SRel.halt
def plainV : Value -> Bool
 | .int _ _ | .string _ | .bool _ => true
 | _ => false
theorem sameBits_rel {n : Nat} {a a' b b' : Value} (ha : VRel π a a') (hb : VRel π b b') (hs : plainV b = true) (na : ¬ IsJunk a) : Instr.sameBits n a b = Instr.sameBits n a' b' := by
 cases hb <;> first | (cases hs) | skip
 all_goals (cases ha <;> first | exact absurd ⟨_, rfl⟩ na | rfl | (cases n <;> rfl))
omit [Env] in
theorem sameNow_plain {kind : TypeDesc} {k a : Value} (h : Instr.sameNow kind k a = some true) : plainV k = true /\ ¬ IsJunk a := by
 unfold Instr.sameNow at h
 split at h <;> first | exact ⟨rfl, fun ⟨_, e⟩ => by cases e⟩ | cases h
omit [Env] in
theorem findNow_plain {kind : TypeDesc} {k : Value} : ∀ {l : List MapEntry} (i : Nat) {r : Nat × Value}, Instr.findNow kind k l i = some (some r) -> plainV k = true /\ i <= r.1 /\ ∀ e, l[r.1 - i]? = some e -> ¬ IsJunk e.key
 | [], _, _, h => by cases h
 | e :: l, i, r, h => by
   unfold Instr.findNow at h
   split at h
   · rename_i h1
     cases h
     refine ⟨(sameNow_plain h1).1, Nat.le_refl _, fun x hx => ?_⟩
     simp only [Nat.sub_self, List.getElem?_cons_zero, Option.some.injEq] at hx
     subst hx; exact (sameNow_plain h1).2
   · obtain ⟨a, b, c⟩ := findNow_plain (i + 1) h
     refine ⟨a, by omega, fun x hx => c x ?_⟩
     rw [show r.1 - i = (r.1 - (i + 1)) + 1 by omega] at hx
     simpa using hx
   · cases h
abbrev BP (x y : Value) : Ren -> Bool -> Bool -> Prop := fun _ a b => a = b /\ (a = true -> plainV x = true /\ ¬ IsJunk y)
theorem r_equalP (ok : POk P) {t : TypeId} (hS : Scalar P t) {x x' y y' : Value} (hx : VRel π x x') (hy : VRel π y y') : SRel P (BP x y) π (Op.equal t x y) (Op.equal t x' y') := by
 by_cases hyj : IsJunk y
 · obtain ⟨_, rfl⟩ := hyj; exact .dead (dead_equalR hS)
 by_cases hxj : IsJunk x
 · obtain ⟨_, rfl⟩ := hxj; exact .dead (dead_equalL hS)
 by_cases hp : plainV x = true
 · exact (r_equal ok hS hx hy).mono fun π a b _ e => ⟨e, fun _ => ⟨hp, hyj⟩⟩
 · unfold Op.equal Op.maxDepth
   rw [show (10000 : Nat) = 9999 + 1 from rfl, Op.equalIn, Op.equalIn]
   refine go_underlying fun d hd => ?_
   rcases hS with ⟨⟨k, hk⟩, hc⟩ | hk | hk <;> rw [hk] at hd <;> cases hd
   · cases hx with
     | int k n => exact absurd rfl hp
     | pnil => cases hy <;> exact SRel.halt
     | pointer ha =>
       cases hy with
       | int k' n' =>
         cases n' with
         | ofNat m =>
           cases m with
           | zero => exact .pure ⟨rfl, fun h => by cases h⟩
           | succ m => exact SRel.halt
         | negSucc m => exact SRel.halt
       | pointer hb =>
         refine go_behind ha fun a a' l ha => go_behind hb fun b b' l' hb => go_program (.dead ?_)
         have hl : ¬ (a.block == b.block && decide (a.block < P.globals.size)) = true := by
           have : P.globals.size <= a.block := Nat.le_trans ok.low ha.2.2.2
           simp; intro _; omega
         show DeadS P (if (a.block == b.block && decide (a.block < P.globals.size)) = true then _ else _)
         rw [if_neg hl]
         refine dead_typeInfo fun i hi => ?_
         split
         · exact absurd (by assumption) (hc i _ hi)
         · exact .halt
       | _ => exact SRel.halt
     | _ => cases hy <;> exact SRel.halt
   · cases hx with
     | string a => exact absurd rfl hp
     | _ => cases hy <;> exact SRel.halt
   · cases hx with
     | bool a => exact absurd rfl hp
     | _ => cases hy <;> exact SRel.halt
abbrev FP (k : Value) (l : List MapEntry) (i : Nat) : Ren -> Option (Nat × Value) -> Option (Nat × Value) -> Prop := fun π r r' => FRel π r r' /\ (∀ x, r = some x -> plainV k = true /\ i <= x.1 /\ ∀ e, l[x.1 - i]? = some e -> ¬ IsJunk e.key)
theorem r_findAskingP (ok : POk P) {kt : TypeId} (hS : Scalar P kt) {k : Value} : ∀ {π : Ren} {k' : Value} {l l' : List MapEntry} (i : Nat), VRel π k k' -> LERel π l l' -> SRel P (FP k l i) π (Instr.findAsking kt k l i) (Instr.findAsking kt k' l' i)
 | _, _, [], [], _, _, _ => .pure ⟨trivial, fun x h => by cases h⟩
 | _, _, [], _ :: _, _, _, h => by cases h.1
 | _, _, _ :: _, [], _, _, h => by cases h.1
 | π, k', e :: l, e' :: l', i, hk, h => by
   obtain ⟨⟨h1, h2⟩, h3⟩ := h.cons
   unfold Instr.findAsking
   refine SRel.bind' (r_equalP ok hS hk h1) fun π' a b hle e => ?_
   obtain ⟨e, hpl⟩ := e
   subst e
   cases a with
   | true =>
     refine .pure ⟨⟨rfl, h2.mono hle⟩, fun x hx => ?_⟩
     cases hx
     refine ⟨(hpl rfl).1, Nat.le_refl _, fun x hx => ?_⟩
     simp only [Nat.sub_self, List.getElem?_cons_zero, Option.some.injEq] at hx
     subst hx; exact (hpl rfl).2
   | false =>
     refine (r_findAskingP ok hS (i + 1) (hk.mono hle) (h3.mono hle)).mono fun π'' r r' _ ⟨h4, h5⟩ => ⟨h4, fun x hx => ?_⟩
     obtain ⟨a, b, c⟩ := h5 x hx
     refine ⟨a, by omega, fun y hy => c y ?_⟩
     rw [show x.1 - i = (x.1 - (i + 1)) + 1 by omega] at hy
     simpa using hy
theorem r_findKeyP (ok : POk P) {kt : TypeId} (hS : Scalar P kt) {k k' : Value} (hk : VRel π k k') {l l' : List MapEntry} (h : LERel π l l') : SRel P (FP k l 0) π (Instr.findKey kt k l) (Instr.findKey kt k' l') := by
 unfold Instr.findKey
 refine go_underlying fun d hd => ?_
 rcases findNow_rel (kind := d) hS hd hk 0 h with ⟨e1, e2⟩ | ⟨r, r', e1, e2, hr⟩ | ⟨e1, e2⟩
 · simp only [e1, e2]
   exact r_findAskingP ok hS 0 hk h
 · simp only [e1, e2]
   refine .pure ⟨hr, fun x hs => ?_⟩
   subst hs
   exact findNow_plain 0 e1
 · simp only [e1]
   exact .dead (e2 0)
theorem r_setMap {r r' : Nat} (hr : π r = some r') {es es' : Array MapEntry} {n : Nat} (he : ERel π es es') (hs : ¬ Env.sealed r) : SRel P UQ π (setObj r (.map es n)) (setObj r' (.map es' n)) :=
 SRel.setObj hr (show ORel π (.map es n) (.map es' n) from ⟨he, rfl⟩) (fun c t f e => by cases e) hs (.pure trivial)
theorem r_mapUpdate (ok : POk P) (hsl : ∀ b, ¬ Env.sealed b) {t : TypeId} (hm : ∀ kt el, P.underlying t = some (.map kt el) -> Scalar P kt) {x x' k k' v v' : Value} (hx : VRel π x x') (hk : VRel π k k') (hv : VRel π v v') :
   SRel P UQ π (Instr.mapUpdate t x k v) (Instr.mapUpdate t x' k' v') := by
 unfold Instr.mapUpdate
 refine go_underlying fun d hd => ?_
 cases d <;> first | exact SRel.halt | skip
 rename_i kt el
 have hS := hm kt el hd
 cases hx with
 | mnil => exact .dead dead_panic
 | map hr =>
   refine go_getObj hr fun o o' ho => ?_
   cases o <;> cases o' <;> first | exact ho.elim | exact SRel.halt | skip
   rename_i es n es' n'
   obtain ⟨he, rfl⟩ := ho
   refine go_checkKey hS ?_
   refine SRel.bind' (r_findKeyP ok hS hk he.toList) fun π' r r' hle hf => ?_
   obtain ⟨hf, hpl⟩ := hf
   have hr' := hle _ _ hr
   have he' : ERel π' es es' := he.mono hle
   cases r with
   | none =>
     cases r' with
     | some _ => exact hf.elim
     | none => exact r_setMap hr' (he'.push (hk.mono hle) (hv.mono hle) rfl) (hsl _)
   | some a =>
     cases r' with
     | none => exact hf.elim
     | some b =>
       obtain ⟨i, va⟩ := a
       obtain ⟨j, vb⟩ := b
       obtain ⟨rfl, hvab⟩ := hf
       have hold : VRel π' (((es[i]?).map (·.key)).getD k) (((es'[i]?).map (·.key)).getD k') := by
         cases e1 : es[i]? with
         | none =>
           have : es'[i]? = none := Array.getElem?_eq_none (by rw [<- he'.1]; exact Array.getElem?_eq_none_iff.1 e1)
           rw [this]; exact hk.mono hle
         | some x =>
           have hlt : i < es'.size := by rw [<- he'.1]; exact (Array.getElem?_eq_some_iff.1 e1).1
           have e2 : es'[i]? = some es'[i] := Array.getElem?_eq_getElem hlt
           rw [e2]
           exact (he'.2 i _ _ e1 e2).1
       have hupd : ∀ {y y' : Value}, VRel π' y y' -> SRel P UQ π' (setObj _ (.map (es.modify i fun e => { e with key := y, val := v }) n)) (setObj _ (.map (es'.modify i fun e => { e with key := y', val := v' }) n)) := fun hy =>
         r_setMap hr' (he'.modify fun e e' _ _ hb => ⟨hy, hv.mono hle, hb⟩) (hsl _)
       obtain ⟨hpk, -, hne⟩ := hpl _ rfl
       have hnk : ¬ IsJunk k := fun ⟨_, e⟩ => by rw [e] at hpk; cases hpk
       have hno : ¬ IsJunk (((es[i]?).map (·.key)).getD k) := by
         cases e1 : es[i]? with
         | none => exact hnk
         | some x => exact hne x (by simpa using e1)
       have hsb := sameBits_rel (n := 10000) hold (hk.mono hle) hpk hno
       show SRel P UQ π' (Instr.keyThatStays _ _ >>= _) (Instr.keyThatStays _ _ >>= _)
       unfold Instr.keyThatStays
       rw [<- hsb]
       by_cases hsame : Instr.sameBits 10000 (((es[i]?).map (·.key)).getD k) k = true
       · rw [if_pos hsame, if_pos hsame]
         exact go_pure (hupd (hk.mono hle))
       · rw [if_neg hsame, if_neg hsame, bind_assoc, bind_assoc]
         refine go_choose fun c => go_pure (hupd ?_)
         by_cases hc : c = 0
         · rw [if_pos hc, if_pos hc]; exact hk.mono hle
         · rw [if_neg hc, if_neg hc]; exact hold
 | _ => exact SRel.halt
theorem empty_tuple : VRel π (.tuple #[]) (.tuple #[]) := .tuple rfl fun i hi => by simp at hi
theorem r_delete (ok : POk P) (hsl : ∀ b, ¬ Env.sealed b) {ts : Array TypeId} {rt : TypeId} (hm : ∀ t, ts[0]? = some t -> ∀ kt el, P.underlying t = some (.map kt el) -> Scalar P kt) {xs xs' : Array Value} (hx : VsRel π xs xs') :
   SRel P VQ π (Builtin.delete_ ts rt xs) (Builtin.delete_ ts rt xs') := by
 unfold Builtin.delete_
 cases ht : ts[0]? with
 | none => exact SRel.halt
 | some t =>
   rcases hx.get? 0 with ⟨e1, e2⟩ | ⟨x, x', e1, e2, hx0⟩
   · simp only [e1]; exact SRel.halt
   rcases hx.get? 1 with ⟨e3, e4⟩ | ⟨k, k', e3, e4, hk⟩
   · simp only [e1, e3]; exact SRel.halt
   simp only [e1, e2, e3, e4]
   refine go_underlying fun d hd => ?_
   cases d <;> first | exact SRel.halt | skip
   rename_i kt el
   have hS := hm t ht kt el hd
   cases hx0 with
   | mnil => exact go_checkKey hS (.pure empty_tuple)
   | map hr =>
     refine go_getObj hr fun o o' ho => ?_
     cases o <;> cases o' <;> first | exact ho.elim | exact SRel.halt | skip
     rename_i es n es' n'
     obtain ⟨he, rfl⟩ := ho
     refine go_checkKey hS ?_
     refine SRel.bind' (r_findKey ok hS hk he.toList) fun π' r r' hle hf => ?_
     have hr' := hle _ _ hr
     have he' : ERel π' es es' := he.mono hle
     cases r with
     | none =>
       cases r' with
       | some _ => exact hf.elim
       | none => exact SRel.bind' (r_setMap hr' he' (hsl _)) fun _ _ _ _ _ => .pure empty_tuple
     | some a =>
       cases r' with
       | none => exact hf.elim
       | some b =>
         obtain ⟨i, va⟩ := a
         obtain ⟨j, vb⟩ := b
         obtain ⟨rfl, -⟩ := hf
         exact SRel.bind' (r_setMap hr' he'.erase (hsl _)) fun _ _ _ _ _ => .pure empty_tuple
   | _ => exact SRel.halt
theorem r_clear (hsl : ∀ b, ¬ Env.sealed b) {ts : Array TypeId} {rt : TypeId} (hm : ∀ t, ts[0]? = some t -> ∃ kt el, P.underlying t = some (.map kt el)) {xs xs' : Array Value} (hx : VsRel π xs xs') :
   SRel P VQ π (Builtin.clear_ ts rt xs) (Builtin.clear_ ts rt xs') := by
 unfold Builtin.clear_
 cases ht : ts[0]? with
 | none => exact SRel.halt
 | some t =>
   obtain ⟨kt, el, hmt⟩ := hm t ht
   rcases hx.get? 0 with ⟨e1, e2⟩ | ⟨x, x', e1, e2, hx0⟩
   · simp only [e1]; exact SRel.halt
   simp only [e1, e2]
   refine go_underlying fun d hd => ?_
   rw [hmt] at hd
   cases hd
   cases hx0 with
   | mnil => exact .pure empty_tuple
   | snil n c => exact .pure empty_tuple
   | slice n c ha =>
     cases n with
     | zero => exact .pure empty_tuple
     | succ n => exact SRel.halt
   | map hr =>
     refine go_getObj hr fun o o' ho => ?_
     cases o <;> cases o' <;> first | exact ho.elim | exact SRel.halt | skip
     obtain ⟨he, rfl⟩ := ho
     exact SRel.bind' (r_setMap hr ERel.empty (hsl _)) fun _ _ _ _ _ => .pure empty_tuple
   | _ => exact SRel.halt
theorem r_unary {op : UnOp} {v v' : Value} (hv : VRel π v v') : SRel P VQ π (Op.unary op v) (Op.unary op v') := by
 have hi : ∀ k n, SRel P VQ π (Op.unary op (.int k n)) (Op.unary op (.int k n)) := fun k n => by
   cases op <;> first | exact SRel.halt | skip
   all_goals
     unfold Op.unary
     first
       | (unfold Op.intArith; split <;> first | exact .pure (.int _ _) | exact SRel.halt)
       | (unfold Op.intBits; split <;> first | exact .pure (.int _ _) | exact SRel.halt)
       | exact .pure (.int _ _)
 cases hv with
 | int k n => exact hi k n
 | bool b => cases op <;> first | exact SRel.halt | exact .pure (.bool _)
 | _ => cases op <;> exact SRel.halt
theorem r_min2 {x x' y y' : Value} (hx : VRel π x x') (hy : VRel π y y') : SRel P VQ π (Builtin.min2 x y) (Builtin.min2 x' y') := by
 cases hx with
 | int k n =>
   cases hy with
   | int k' n' => exact .pure (.int _ _)
   | pnil => exact SRel.halt
   | pointer ha => exact SRel.halt
   | _ => exact SRel.halt
 | string a =>
   cases hy with
   | string b =>
     unfold Builtin.min2 Op.stringOp
     exact .pure (.string _)
   | pnil => exact SRel.halt
   | pointer ha => exact SRel.halt
   | _ => exact SRel.halt
 | pointer ha => cases hy <;> exact SRel.halt
 | pnil => cases hy <;> exact SRel.halt
 | _ => cases hy <;> exact SRel.halt
theorem r_max2 {x x' y y' : Value} (hx : VRel π x x') (hy : VRel π y y') : SRel P VQ π (Builtin.max2 x y) (Builtin.max2 x' y') := by
 cases hx with
 | int k n =>
   cases hy with
   | int k' n' => exact .pure (.int _ _)
   | pnil => exact SRel.halt
   | pointer ha => exact SRel.halt
   | _ => exact SRel.halt
 | string a =>
   cases hy with
   | string b =>
     unfold Builtin.max2 Op.stringOp
     exact .pure (.string _)
   | pnil => exact SRel.halt
   | pointer ha => exact SRel.halt
   | _ => exact SRel.halt
 | pointer ha => cases hy <;> exact SRel.halt
 | pnil => cases hy <;> exact SRel.halt
 | _ => cases hy <;> exact SRel.halt
theorem LsRel.mono {π π' : Ren} (h : π.le π') {l l' : List Value} (x : LsRel π l l') : LsRel π' l l' := by
 induction x with
 | nil => exact .nil
 | cons hv _ ih => exact .cons (hv.mono h) ih
theorem r_fold {F : Value -> Value -> Sem Value} (hF : ∀ {π : Ren} {x x' y y' : Value}, VRel π x x' -> VRel π y y' -> SRel P VQ π (F x y) (F x' y')) : ∀ {π : Ren} {l l' : List Value} {x x' : Value}, LsRel π l l' -> VRel π x x' -> SRel P VQ π (l.foldlM F x) (l'.foldlM F x')
 | _, _, _, _, _, .nil, hx => .pure hx
 | π, _, _, x, x', .cons hy hl, hx => by
   rw [List.foldlM_cons, List.foldlM_cons]
   exact SRel.bind' (hF hx hy) fun π' a b hle hab => r_fold hF (hl.mono hle) hab
theorem r_min {ts : Array TypeId} {t : TypeId} {xs xs' : Array Value} (hx : VsRel π xs xs') : SRel P VQ π (Builtin.min_ ts t xs) (Builtin.min_ ts t xs') := by
 unfold Builtin.min_
 have h := hx.toList
 revert h
 generalize xs.toList = l
 generalize xs'.toList = l'
 intro h
 cases h with
 | nil => exact SRel.halt
 | cons hv hl => exact r_fold (fun h1 h2 => r_min2 h1 h2) hl hv
theorem r_max {ts : Array TypeId} {t : TypeId} {xs xs' : Array Value} (hx : VsRel π xs xs') : SRel P VQ π (Builtin.max_ ts t xs) (Builtin.max_ ts t xs') := by
 unfold Builtin.max_
 have h := hx.toList
 revert h
 generalize xs.toList = l
 generalize xs'.toList = l'
 intro h
 cases h with
 | nil => exact SRel.halt
 | cons hv hl => exact r_fold (fun h1 h2 => r_max2 h1 h2) hl hv
theorem r_makeFunc {f : FuncId} (hf : Env.fnOk f) {x x' c c' : Array Value} (hx : VsRel π x x') (hc : VsRel π c c') : SRel P VQ π (Instr.makeFunc (.func f) x c) (Instr.makeFunc (.func f) x' c') :=
 .pure (.func ⟨rfl, hf⟩ hx.1 hx.2 hc.1 hc.2)
end
section
variable [Env] {P : Program} {π : Ren}
theorem r_equalNil {t : TypeId} (hp : ∃ e, P.underlying t = some (.pointer e)) {x x' : Value} (hx : VRel π x x') : SRel P BQ π (Op.equal t x (.pointer none)) (Op.equal t x' (.pointer none)) := by
 obtain ⟨e, he⟩ := hp
 unfold Op.equal Op.maxDepth
 rw [show (10000 : Nat) = 9999 + 1 from rfl, Op.equalIn, Op.equalIn]
 refine go_underlying fun d hd => ?_
 rw [he] at hd
 cases hd
 cases hx with
 | pnil => exact .pure rfl
 | pointer ha => exact .pure rfl
 | _ => exact SRel.halt
theorem r_nilEq {op : BinOp} {t : TypeId} {a b : Operand} (hE : EqOp op) (hp : ∃ e, P.underlying t = some (.pointer e)) {x x' : Value} (hx : VRel π x x') :
   SRel P VQ π (do eqGuard op t a b x (.pointer none); binOp op t x (.pointer none)) (do eqGuard op t a b x' (.pointer none); binOp op t x' (.pointer none)) := by
 have he : SRel P VQ π (do pure (.bool (<- Op.equal t x (.pointer none)))) (do pure (.bool (<- Op.equal t x' (.pointer none)))) := SRel.bind' (r_equalNil hp hx) fun π' a b _ e => by subst e; exact .pure (.bool _)
 have hn : SRel P VQ π (do pure (.bool (!(<- Op.equal t x (.pointer none))))) (do pure (.bool (!(<- Op.equal t x' (.pointer none))))) := SRel.bind' (r_equalNil hp hx) fun π' a b _ e => by subst e; exact .pure (.bool _)
 have hd : ∀ i, DeadS P (Op.equal t (junkV i) (.pointer none)) := fun i => by
   obtain ⟨e, hp⟩ := hp
   unfold Op.equal Op.maxDepth
   rw [show (10000 : Nat) = 9999 + 1 from rfl, Op.equalIn]
   exact dead_under fun d hd => by rw [hp] at hd; cases hd; exact .halt
 have hl1 : ∀ i, DeadS P (do pure (Value.bool (<- Op.equal t (junkV i) (.pointer none)))) := fun i => DeadS.left (hd i)
 have hl2 : ∀ i, DeadS P (do pure (Value.bool (!(<- Op.equal t (junkV i) (.pointer none))))) := fun i => DeadS.left (hd i)
 rcases hE with rfl | rfl
 · cases hx <;> first | exact he | exact .dead (hl1 _)
 · cases hx <;> first | exact hn | exact .dead (hl2 _)
end
section
variable [Env] {P : Program} {α β γ δ : Type} {Q : Ren -> γ -> δ -> Prop} {π : Ren}
theorem r_equalIn (ok : POk P) (d0 : Nat) {t : TypeId} (hS : Scalar P t) {x x' y y' : Value} (hx : VRel π x x') (hy : VRel π y y') : SRel P BQ π (Op.equalIn (d0 + 1) t x y) (Op.equalIn (d0 + 1) t x' y') := by
 rw [Op.equalIn, Op.equalIn]
 refine go_underlying fun d hd => ?_
 rcases hS with ⟨⟨k, hk⟩, hc⟩ | hk | hk <;> rw [hk] at hd <;> cases hd
 · cases hx with
   | int k n =>
     cases hy with
     | int k' n' => exact r_ite (fun _ => .pure rfl) fun _ => SRel.halt
     | pnil => exact SRel.halt
     | pointer ha =>
       cases n with
       | ofNat m =>
         cases m with
         | zero => exact .pure rfl
         | succ m => exact SRel.halt
       | negSucc m => exact SRel.halt
     | _ => exact SRel.halt
   | pnil => cases hy <;> exact SRel.halt
   | pointer ha =>
     cases hy with
     | int k' n' =>
       cases n' with
       | ofNat m =>
         cases m with
         | zero => exact .pure rfl
         | succ m => exact SRel.halt
       | negSucc m => exact SRel.halt
     | pointer hb =>
       refine go_behind ha fun a a' l ha => go_behind hb fun b b' l' hb => go_program (.dead ?_)
       have hl : ¬ (a.block == b.block && decide (a.block < P.globals.size)) = true := by
         have : P.globals.size <= a.block := Nat.le_trans ok.low ha.2.2.2
         simp; intro _; omega
       show DeadS P (if (a.block == b.block && decide (a.block < P.globals.size)) = true then _ else _)
       rw [if_neg hl]
       refine dead_typeInfo fun i hi => ?_
       split
       · exact absurd (by assumption) (hc i _ hi)
       · exact .halt
     | _ => exact SRel.halt
   | _ => cases hy <;> exact SRel.halt
 · cases hx with
   | string a =>
     cases hy with
     | string b => exact .pure rfl
     | _ => exact SRel.halt
   | _ => cases hy <;> exact SRel.halt
 · cases hx with
   | bool a =>
     cases hy with
     | bool b => exact .pure rfl
     | _ => exact SRel.halt
   | _ => cases hy <;> exact SRel.halt
abbrev SQ (σ : Type) : Ren -> σ -> σ -> Prop := fun _ a b => a = b
theorem r_forIn {ι σ : Type} {F F' : ι -> σ -> Sem (ForInStep σ)} : ∀ {π : Ren} (l : List ι) (s : σ), (∀ π', π.le π' -> ∀ a, a ∈ l -> ∀ s, SRel P (SQ (ForInStep σ)) π' (F a s) (F' a s)) -> SRel P (SQ σ) π (forIn l s F) (forIn l s F')
 | _, [], s, _ => by
   rw [List.forIn_nil, List.forIn_nil]
   exact .pure rfl
 | π, a :: l, s, h => by
   rw [List.forIn_cons, List.forIn_cons]
   refine SRel.bind' (h π (Ren.le_refl π) a List.mem_cons_self s) fun π' r r' hle e => ?_
   subst e
   cases r with
   | done s => exact .pure rfl
   | yield s => exact r_forIn l s fun π2 h2 b hb s => h π2 (Ren.le_trans hle h2) b (List.mem_cons_of_mem _ hb) s
def FlatStruct (P : Program) (t : TypeId) : Prop := ∃ fs, P.underlying t = some (.struct fs) /\ ∀ f, f ∈ fs -> Scalar P f.type
theorem r_equalStruct (ok : POk P) {t : TypeId} (hF : FlatStruct P t) {x x' y y' : Value} (hx : VRel π x x') (hy : VRel π y y') : SRel P BQ π (Op.equal t x y) (Op.equal t x' y') := by
 obtain ⟨fs, hfs, hS⟩ := hF
 unfold Op.equal Op.maxDepth
 rw [show (10000 : Nat) = 9998 + 1 + 1 from rfl, Op.equalIn, Op.equalIn]
 refine go_underlying fun d hd => ?_
 rw [hfs] at hd
 cases hd
 cases hx with
 | agg h1 h2 =>
   rename_i c c'
   cases hy with
   | agg h3 h4 =>
     rename_i e e'
     have hc : VsRel π c c' := ⟨h1, h2⟩
     have he : VsRel π e e' := ⟨h3, h4⟩
     refine go_program ?_
     refine r_ite (fun _ => go_unsupported) fun _ => ?_
     simp only []
     rw [<- Array.forIn_toList, <- Array.forIn_toList]
     refine SRel.bind' (r_forIn fs.toList (none, ()) fun π' hle f hf s => ?_) fun π' r r' hle er => ?_
     · have hc' := hc.mono hle
       have he' := he.mono hle
       refine r_ite (fun _ => ?_) fun _ => .pure rfl
       refine go_part hc' fun v v' hv => go_part he' fun u u' hu => ?_
       refine SRel.bind' (r_equalIn ok 9998 (hS f (by simpa using hf)) hv hu) fun π2 b b' _ eb => ?_
       subst eb
       exact r_ite (fun _ => .pure rfl) fun _ => .pure rfl
     · subst er
       obtain ⟨r1, r2⟩ := r
       cases r1 with
       | none => exact .pure rfl
       | some b => exact .pure rfl
   | _ => exact SRel.halt
 | _ => cases hy <;> exact SRel.halt
theorem r_guardScalar {t : TypeId} (hS : Scalar P t) (d : Nat) {x x' y y' : Value} : SRel P BQ π (Op.eqGuardIn (d + 1) t x y) (Op.eqGuardIn (d + 1) t x' y') := by
 rw [Op.eqGuardIn, Op.eqGuardIn]
 refine go_underlying fun dd hd => ?_
 rcases hS with ⟨⟨k, hk⟩, _⟩ | hk | hk <;> rw [hk] at hd <;> cases hd <;> exact .pure rfl
theorem r_guardStruct {t : TypeId} (hF : FlatStruct P t) {c c' e e' : Array Value} (hc : VsRel π c c') (he : VsRel π e e') : SRel P BQ π (Op.eqGuardIn Op.maxDepth t (.agg c) (.agg e)) (Op.eqGuardIn Op.maxDepth t (.agg c') (.agg e')) := by
 obtain ⟨fs, hfs, hS⟩ := hF
 unfold Op.maxDepth
 rw [show (10000 : Nat) = 9998 + 1 + 1 from rfl, Op.eqGuardIn, Op.eqGuardIn]
 refine go_underlying fun d hd => ?_
 rw [hfs] at hd
 cases hd
 simp only []
 rw [<- Array.forIn_toList, <- Array.forIn_toList]
 refine SRel.bind' (r_forIn fs.toList (none, ()) fun π' hle f hf s => ?_) fun π' r r' hle er => ?_
 · have hc' := hc.mono hle
   have he' := he.mono hle
   refine r_ite (fun _ => ?_) fun _ => .pure rfl
   refine go_part hc' fun v v' hv => go_part he' fun u u' hu => ?_
   refine SRel.bind' (r_guardScalar (hS f (by simpa using hf)) 9998) fun π2 b b' _ eb => ?_
   subst eb
   exact r_ite (fun _ => .pure rfl) fun _ => .pure rfl
 · subst er
   obtain ⟨r1, r2⟩ := r
   cases r1 with
   | none => exact .pure rfl
   | some b => exact .pure rfl
omit [Env] in
theorem dead_structL {t : TypeId} (hF : FlatStruct P t) {z y : Value} : DeadS P (Op.equal t (junkV z) y) := by
 obtain ⟨fs, hfs, -⟩ := hF
 unfold Op.equal Op.maxDepth
 rw [show (10000 : Nat) = 9999 + 1 from rfl, Op.equalIn]
 exact dead_under fun d hd => by rw [hfs] at hd; cases hd; cases y <;> exact .halt
omit [Env] in
theorem dead_structR {t : TypeId} (hF : FlatStruct P t) {z x : Value} : DeadS P (Op.equal t x (junkV z)) := by
 obtain ⟨fs, hfs, -⟩ := hF
 unfold Op.equal Op.maxDepth
 rw [show (10000 : Nat) = 9999 + 1 from rfl, Op.equalIn]
 exact dead_under fun d hd => by rw [hfs] at hd; cases hd; cases x <;> exact .halt
theorem r_binOpS (ok : POk P) {op : BinOp} {t : TypeId} (hE : EqOp op) (hF : FlatStruct P t) {x x' y y' : Value} (hx : VRel π x x') (hy : VRel π y y') : SRel P VQ π (binOp op t x y) (binOp op t x' y') := by
 have he : op = .eql -> SRel P VQ π (do pure (.bool (<- Op.equal t x y))) (do pure (.bool (<- Op.equal t x' y'))) := fun _ => SRel.bind' (r_equalStruct ok hF hx hy) fun π' a b _ e => by subst e; exact .pure (.bool _)
 have hn : op = .neq -> SRel P VQ π (do pure (.bool (!(<- Op.equal t x y)))) (do pure (.bool (!(<- Op.equal t x' y')))) := fun _ => SRel.bind' (r_equalStruct ok hF hx hy) fun π' a b _ e => by subst e; exact .pure (.bool _)
 rcases hE with rfl | rfl
 · cases hx <;> cases hy <;> first | exact he rfl | exact r_ints | exact r_strings | exact go_dead (dead_structL hF) | exact go_dead (dead_structR hF)
 · cases hx <;> cases hy <;> first | exact hn rfl | exact r_ints | exact r_strings | exact go_dead (dead_structL hF) | exact go_dead (dead_structR hF)
theorem go_guardS {op : BinOp} {t : TypeId} {a b : Operand} (hE : EqOp op) (hF : FlatStruct P t) {x x' y y' : Value} (hx : VRel π x x') (hy : VRel π y y') {f : Unit -> Sem γ} {g : Unit -> Sem δ} (h : ∀ π', π.le π' -> SRel P Q π' (f ()) (g ())) :
   SRel P Q π (eqGuard op t a b x y >>= f) (eqGuard op t a b x' y' >>= g) := by
 have h0 := h π (Ren.le_refl π)
 have hnil : SRel P BQ π (Op.eqGuardIn Op.maxDepth t .nilIface .nilIface) (Op.eqGuardIn Op.maxDepth t .nilIface .nilIface) := by
   obtain ⟨fs, hfs, -⟩ := hF
   unfold Op.maxDepth
   rw [show (10000 : Nat) = 9999 + 1 from rfl, Op.eqGuardIn]
   refine go_underlying fun d hd => ?_
   rw [hfs] at hd
   cases hd
   exact .pure rfl
 unfold eqGuard
 rcases hE with rfl | rfl
 all_goals
   cases hx with
   | nilIface =>
     cases hy with
     | nilIface => exact go_ite (fun _ => h0) fun _ => go_ite (fun _ => h0) fun _ => go_asc (SRel.bind' hnil fun π' b b' hle eb => by
         subst eb
         exact go_ite (fun _ => go_unsupported) fun _ => go_pure (h _ hle))
     | @junk y' k => (cases y' <;> first | exact h0 | exact k.elim)
     | _ => exact h0
   | agg e1 h1 =>
     cases hy with
     | agg e2 h2 => exact go_ite (fun _ => h0) fun _ => go_asc (go_program (go_asc (go_program (go_ite (fun _ => h0) fun _ => go_asc (SRel.bind' (r_guardStruct hF ⟨e1, h1⟩ ⟨e2, h2⟩) fun π' b b' hle eb => by
         subst eb
         exact go_ite (fun _ => go_unsupported) fun _ => go_pure (h _ hle))))))
     | @junk y' k => (cases y' <;> first | exact h0 | exact k.elim)
     | _ => exact h0
   | @junk x' k => (cases x' <;> first | exact k.elim | exact h0)
   | _ => cases hy <;> exact h0
end
end Go.Eq
