/- MAPS OF A CALL's OWN, WHATEVER THEIR ELEMENTS: what a. -/
import Derived.Maps.OwnSet
import Derived.Deep.AppendLies
namespace Go.Tm
open Go Go.Maps
def heldE : Value -> Option (DataW Value × List MemPlace) := fun v => some (.held v, [])
structure Says (D : DataW Value) (F : Lit -> Option Value) : Prop where
 has : ∀ k, Maps.has D k = (F k).isSome
 at' : ∀ k z, D.atKey k z = ((F k).map DataW.held).getD z
open Classical in
noncomputable def upd (F : Lit -> Option Value) (k : Lit) (o : Option Value) : Lit -> Option Value := fun j => if j = k then o else F j
theorem Says.nil : Says (.map []) fun _ => none := ⟨fun _ => rfl, fun _ _ => rfl⟩
theorem Says.put {D : DataW Value} {F : Lit -> Option Value} (h : Says D F) (hD : IsMap D) {k : Lit} (hk : WideAt.IsKeyLit k) (v : Value) : Says (D.put k (.held v)) (upd F k (some v)) := by
 constructor
 . intro j
   unfold upd
   by_cases e : j = k
   . subst e; rw [if_pos rfl, has_put_same hD hk]; rfl
   . rw [if_neg e, has_put_other e, h.has]
 . intro j z
   unfold upd
   by_cases e : j = k
   . subst e; rw [if_pos rfl, atKey_put_same hD hk]; rfl
   . rw [if_neg e, atKey_put_other e, h.at']
theorem Says.del {D : DataW Value} {F : Lit -> Option Value} (h : Says D F) (k : Lit) : Says (D.del k) (upd F k none) := by
 constructor
 . intro j
   unfold upd
   by_cases e : j = k
   . subst e; rw [if_pos rfl, has_del_same]; rfl
   . rw [if_neg e, has_del_other e, h.has]
 . intro j z
   unfold upd
   by_cases e : j = k
   . subst e; rw [if_pos rfl, atKey_del_same]; rfl
   . rw [if_neg e, atKey_del_other e, h.at']
section
variable {P : Program} {K : TypeId}
def MapAt (P : Program) (K : TypeId) (w : World) (b n : Nat) (F : Lit -> Option Value) : Prop := ∃ D, w.ownsMap P K heldE b n D /\ Says D F
variable {w : World} {b n : Nat} {F : Lit -> Option Value}
theorem MapAt.lt (h : MapAt P K w b n F) : b < w.heap.size := by obtain ⟨D, h, _⟩ := h; exact h.lt
theorem MapAt.new (w : World) : MapAt P K (w.alloc (.map #[] 0)) w.heap.size 0 fun _ => none := ⟨_, World.ownsMap_made w P K heldE, Says.nil⟩
theorem MapAt.same {w' : World} (h : MapAt P K w b n F) (e : w'.heap[b]? = w.heap[b]?) : MapAt P K w' b n F := by
 obtain ⟨D, ⟨es, clock, h1, h2⟩, s⟩ := h; exact ⟨D, ⟨es, clock, e.trans h1, h2⟩, s⟩
theorem MapAt.mono (h : MapAt P K w b n F) {m : Nat} (hm : n <= m) : MapAt P K w b m F := by obtain ⟨D, h, s⟩ := h; exact ⟨D, h.mono hm, s⟩
theorem heldE_eq {v z : Value} {o : Option Value} {ps : List MemPlace} (h : heldE v = some ((o.map DataW.held).getD (.held z), ps)) : v = o.getD z := by
 unfold heldE at h
 cases o with
 | none => simp at h; exact h.1
 | some u => simp at h; exact h.1
variable {ops : Array Oper} {rest : List Oper} {o : Oper} {a : Act} {Q : Exit -> Act -> World -> Prop}
theorem wpList_delete_map (hg : o.guard = none) (m x : Operand) (t : TypeId) (hop : o.op = Op.call { callee := Callee.builtin Builtin.delete, args := #[m, x], argTypes := #[t, K] })
   (e : TypeId) (L : Keyed P K) (ht : P.underlying t = some (.map K e))
   (hm : a.eval m = .map (some b)) (h : MapAt P K w b n F) (key : Value) (kl : Lit) (hx : a.eval x = key) (hkey : keyOf P K key = some kl)
   (hK : ∀ w', MapAt P K w' b n (upd F kl none) -> w.grownBy w' (some b) -> wpList P ops Q rest (a.put o.dst (.tuple #[])) w') : wpList P ops Q (o :: rest) a w := by
 obtain ⟨D, h, s⟩ := h
 exact wpList_delete_own w hg m x t K hop e L ht heldE b n D hm h key kl hx hkey fun w' h1 h2 => hK w' ⟨_, h1, s.del kl⟩ h2.grown
end
end Go.Tm
namespace Go.Tm
open Go Go.Maps Go.RowKit
variable {P : Program} {K0 : TypeId} {w : World} {b n : Nat} {F : Lit -> Option Value} {ops : Array Oper} {o : Oper} {a : Act}
theorem MapAt.update (L : Keyed P K0) {t e : TypeId} (ht : P.underlying t = some (.map K0 e)) (h : MapAt P K0 w b n F) (hn : n < maxLen) {key : Value} (val : Value) {kl : Lit} (hkey : keyOf P K0 key = some kl) :
   ∃ w', (Instr.mapUpdate t (.map (some b)) key val).run P w = .ok () w' /\ MapAt P K0 w' b (n + 1) (upd F kl (some val)) /\ w.grownBy w' (some b) := by
 obtain ⟨D, h, s⟩ := h
 obtain ⟨w', hrun, r1, r2⟩ := h.update (R := heldE) L ht hn (val := val) hkey rfl
 exact ⟨w', hrun, ⟨_, r1, s.put h.isMap (L.key hkey) val⟩, r2⟩
theorem MapAt.look (L : Keyed P K0) {t e : TypeId} (ht : P.underlying t = some (.map K0 e)) (h : MapAt P K0 w b n F) {z : Value} (hz : (zeroValue e).run P w = .ok z w) {key : Value} {kl : Lit} (hkey : keyOf P K0 key = some kl) :
   (Instr.lookup t (.map (some b)) key true).run P w = .ok (.tuple #[(F kl).getD z, .bool (F kl).isSome]) w := by
 obtain ⟨D, h, s⟩ := h
 obtain ⟨v, ps, hrun, hv⟩ := h.look_ok (R := heldE) L ht hz (zd := .held z) (zp := []) rfl hkey
 rw [s.at'] at hv
 rw [heldE_eq hv, s.has] at hrun
 exact hrun
theorem MapAt.look1 (L : Keyed P K0) {t e : TypeId} (ht : P.underlying t = some (.map K0 e)) (h : MapAt P K0 w b n F) {z : Value} (hz : (zeroValue e).run P w = .ok z w) {key : Value} {kl : Lit} (hkey : keyOf P K0 key = some kl) :
   (Instr.lookup t (.map (some b)) key false).run P w = .ok ((F kl).getD z) w := by
 obtain ⟨D, h, s⟩ := h
 obtain ⟨v, ps, hrun, hv⟩ := h.lookup (R := heldE) L ht hz (zd := .held z) (zp := []) rfl hkey
 rw [s.at'] at hv
 rw [heldE_eq hv] at hrun
 exact hrun
theorem MapAt.wipe {t e : TypeId} (ht : P.underlying t = some (.map K0 e)) (h : MapAt P K0 w b n F) (ty : TypeId) :
   ∃ w', (Builtin.clear_ #[t] ty #[.map (some b)]).run P w = .ok (.tuple #[]) w' /\ MapAt P K0 w' b 0 (fun _ => none) /\ w.grownBy w' (some b) := by
 obtain ⟨D, ⟨es, clock, hb, Ft, hs, hD⟩, s⟩ := h
 have hr : (Builtin.clear_ #[t] ty #[.map (some b)]).run P w = .ok (.tuple #[]) { w with heap := w.heap.setIfInBounds b (.map #[] clock) } := by
   simp [Builtin.clear_, run_underlying ht, MapKept.run_getObj_map hb, MapKept.run_setObj_map _ hb, Result.andThen]
 refine ⟨_, hr, ⟨.map [], ⟨#[], clock, (MapKept.heap_set hb).1, ⟨by simp, MapKept.stamped_empty clock, by simp⟩, by simp, rfl⟩, Says.nil⟩, ⟨rfl, rfl, rfl, by simp, fun i _ hi => (MapKept.heap_set hb).2 i (fun e => hi (by rw [e]))⟩⟩
theorem below_grown {w w' : World} (row : Option Nat) (h : Below w.heap.size w w') : w.grownBy w' row := ⟨h.os, h.tape, h.output, h.size, fun i hi _ => h.block i hi⟩
end Go.Tm
