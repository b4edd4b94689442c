/- SEALED TREES: what is asked of a tree, what has a tree;. -/
import Derived.Test.YtddcbeeldjjmeaaGreatPart34
import Derived.Test.YtddcbeeldjjmeaaGreatPart22
namespace Go.Proofs.YtddcbeeldjjmeaaGreat
open Go Go.RowKit Go.Nest Go.Tm Go.Proofs.YtddcbeeldjjmeaaGreat.Tw Go.Maps Go.Sort Go.Shelf Go.Eq
set_option linter.unusedVariables false
set_option linter.unusedSimpArgs false
theorem pb_str (p : Bits) (h : p.length <= 37) : Pu.isPb (str p).data.toList = true:= by
 rw [str_list]
 unfold Pu.isPb
 simp only [Bool.and_eq_true, decide_eq_true_eq, List.length_map, List.all_eq_true]
 refine ⟨fun x hx => ?_, h⟩
 obtain ⟨b, _, rfl⟩:= List.mem_map.1 hx
 cases b <;> decide
theorem wf_rep : ∀ {L : List (Bits × ByteArray)} {t : T ByteArray}, Rep L t -> (∀ x, x ∈ L -> x.1.length <= 37 /\ x.2.size <= 20) -> Wf t.tr:= by
 intro L t h
 induction h with
 | empty => exact fun _ => trivial
 | leaf p v => exact fun h => ⟨pb_str p (h (p, v) List.mem_cons_self).1, (h (p, v) List.mem_cons_self).2⟩
 | @branch l0 l1 t0 t1 p n0 n1 r0 r1 i0 i1 =>
   intro h
   have h0 : ∀ x, x ∈ l0 -> (p ++ [false] ++ x.1).length <= 37 /\ x.2.size <= 20:= fun x hx => h (pre (p ++ [false]) x) (List.mem_append_left _ (List.mem_map.2 ⟨x, hx, rfl⟩))
   have h1 : ∀ x, x ∈ l1 -> (p ++ [true] ++ x.1).length <= 37 /\ x.2.size <= 20:= fun x hx => h (pre (p ++ [true]) x) (List.mem_append_right _ (List.mem_map.2 ⟨x, hx, rfl⟩))
   obtain ⟨z, hz⟩:= rep_ne r0 n0
   refine ⟨pb_str p (by have:= (h0 z hz).1; simp only [List.length_append] at this; omega), i0 fun x hx => ?_, i1 fun x hx => ?_⟩
   . exact ⟨by have:= (h0 x hx).1; simp only [List.length_append] at this; omega, (h0 x hx).2⟩
   . exact ⟨by have:= (h1 x hx).1; simp only [List.length_append] at this; omega, (h1 x hx).2⟩
theorem Row.wf {B : KV} {t : T ByteArray} (hB : Row B) (hr : Rep B.bits t) : Wf t.tr:= by
 refine wf_rep hr fun x hx => ?_
 obtain ⟨y, hy, rfl⟩:= List.mem_map.1 hx
 have h1:= hB.keys y hy
 have h2:= (kall_size _ h1.1).2
 exact ⟨by show (kb y.1).length <= 37; rw [kb_length]; omega, h1.2⟩
theorem sd_nd {dg : DG} {R : Nat -> Prop} {w : World} : ∀ {t : Tr} {b : Nat}, Sd ndT dg R w t b -> Nd ndT dg R w t b
 | .branch _ _ _, _, ⟨h1, bl, br, h2, h3, h4⟩ => ⟨h1, bl, br, _, true, h2, sd_nd h3, sd_nd h4, fun _ => ⟨rfl, h3, h4⟩⟩
 | .empty, _, ⟨h1, h2⟩ => ⟨h1, _, true, h2, fun _ => rfl⟩
 | .leaf _ _, _, ⟨h1, h2⟩ => ⟨h1, _, true, h2, fun _ => rfl⟩
theorem sd_root {dg : DG} {R : Nat -> Prop} {w : World} : ∀ {t : Tr} {b : Nat}, Sd ndT dg R w t b -> ∃ l r, NodeAt ndT w b t.kind t.path t.value l r (Tr.dig dg t) true
 | .branch _ _ _, _, ⟨h1, bl, br, h2, h3, h4⟩ => ⟨_, _, h2⟩
 | .empty, _, ⟨h1, h2⟩ => ⟨_, _, h2⟩
 | .leaf _ _, _, ⟨h1, h2⟩ => ⟨_, _, h2⟩
structure Gw (K : Nat -> Prop) (w w' : World) : Prop where
 os : w'.os = w.os
 size : w.heap.size <= w'.heap.size
 block : ∀ k, k < w.heap.size -> ¬ K k -> w'.heap[k]? = w.heap[k]?
theorem Gw.trans {K : Nat -> Prop} {w w' w'' : World} (h : Gw K w w') (k : Gw K w' w'') : Gw K w w'' :=
 ⟨k.os.trans h.os, Nat.le_trans h.size k.size, fun i hi hn => (k.block i (Nat.lt_of_lt_of_le hi h.size) hn).trans (h.block i hi hn)⟩
theorem Gw.mono {K K' : Nat -> Prop} {w w' : World} (h : Gw K w w') (hk : ∀ k, k < w.heap.size -> K k -> K' k) : Gw K' w w':= ⟨h.os, h.size, fun i hi hn => h.block i hi fun e => hn (hk i hi e)⟩
theorem Gw.below {K : Nat -> Prop} {w w' : World} (h : Below w.heap.size w w') : Gw K w w':= ⟨h.os, h.size, fun k hk _ => h.block k hk⟩
theorem Gw.grew {K : Nat -> Prop} {w w' : World} (h : Grew w w') : Gw K w w':= ⟨h.os, h.size, fun k hk _ => h.old k hk⟩
theorem Gw.kept {K : Nat -> Prop} {w w' : World} (h : Kept K w w') : Gw K w w':= ⟨h.os, h.size, h.block⟩
theorem Gw.grown {w w' : World} {b : Option Nat} (h : w.grownBy w' b) : Gw (fun k => some k = b) w w':= ⟨h.os, h.size, fun k hk hn => h.block k hk hn⟩
def NoNode (w : World) (k : Nat) : Prop:= ∀ cs fr, w.heap[k]? ≠ some (.cells cs ndT fr)
theorem Gw.node {K : Nat -> Prop} {w w' : World} (h : Gw K w w') (hK : ∀ k, K k -> NoNode w k) {b : Nat} {kd : Int} {p v : ByteArray} {l r : Option Addr} {d : Int} {s : Bool} (hN : NodeAt ndT w b kd p v l r d s) : NodeAt ndT w' b kd p v l r d s:= by
 obtain ⟨fr, e⟩:= hN
 exact ⟨fr, (h.block b (Array.getElem?_eq_some_iff.1 e).1 fun hk => hK b hk _ _ e).trans e⟩
theorem Gw.sd {dg : DG} {K : Nat -> Prop} {w w' : World} (h : Gw K w w') (hK : ∀ k, K k -> NoNode w k) : ∀ {t : Tr} {b : Nat}, Sd ndT dg All w t b -> Sd ndT dg All w' t b
 | .branch _ _ _, _, ⟨h1, bl, br, h2, h3, h4⟩ => ⟨h1, bl, br, h.node hK h2, h.sd hK h3, h.sd hK h4⟩
 | .empty, _, ⟨h1, h2⟩ => ⟨h1, h.node hK h2⟩
 | .leaf _ _, _, ⟨h1, h2⟩ => ⟨h1, h.node hK h2⟩
theorem Gw.nd {dg : DG} {K : Nat -> Prop} {w w' : World} (h : Gw K w w') (hK : ∀ k, K k -> NoNode w k) : ∀ {t : Tr} {b : Nat}, Nd ndT dg All w t b -> Nd ndT dg All w' t b
 | .branch _ _ _, _, ⟨h1, bl, br, d, s, h2, h3, h4, h5⟩ => ⟨h1, bl, br, d, s, h.node hK h2, h.nd hK h3, h.nd hK h4, fun x => ⟨(h5 x).1, h.sd hK (h5 x).2.1, h.sd hK (h5 x).2.2⟩⟩
 | .empty, _, ⟨h1, d, s, h2, h3⟩ => ⟨h1, d, s, h.node hK h2, h3⟩
 | .leaf _ _, _, ⟨h1, d, s, h2, h3⟩ => ⟨h1, d, s, h.node hK h2, h3⟩
theorem StoreAt.noNode {w : World} {s bb cb vb : Nat} {wd nw : Int} (h : StoreAt w s wd bb cb vb nw) : NoNode w s:= by
 intro cs fr e
 unfold StoreAt at h
 rw [h] at e
 simp [ndT, stT] at e
theorem MapAt.noNode {w : World} {K0 : TypeId} {b n : Nat} {F : Lit -> Option Value} (h : MapAt Tryz.prog K0 w b n F) : NoNode w b:= by
 obtain ⟨D, ⟨es, cl, e0, _⟩, _⟩:= h
 intro cs fr e
 rw [e0] at e
 cases e
end Go.Proofs.YtddcbeeldjjmeaaGreat
