/- A TREE'S PAIRS, made alone: all of it. -/
import Derived.Test.YtddcbeeldjjmeaaGreatPart27
import Derived.Test.YtddcbeeldjjmeaaGreatPart23
namespace Go.Proofs.YtddcbeeldjjmeaaGreat
open Go Go.RowKit Go.Nest Go.Tm Go.Proofs.YtddcbeeldjjmeaaGreat.Tw Go.Shelf
set_option linter.unusedVariables false
set_option linter.unusedSimpArgs false
variable {dg : DG}
theorem clone_any (s : ByteArray) (w : World) (hs : s.size <= 281474976710656) :
   Calls Tryz.prog 24 #[.string s] w fun e w' => e = .returned (.string s) /\ Below w.heap.size w w':= by
 have hcon:= Any.stringslite_Clone Tryz.lays316 s w hs
 change Calls Tryz.prog 40 _ _ (fun e w' => e = .returned (.string s) /\ Below w.heap.size w w') at hcon
 go_enter Tryz.func24, Tryz.ntmps24
 go_wp2_with (go_at_call 40; refine hcon.mono ?_; rintro e w' ⟨rfl, hb⟩)
 go_ret
 exact ⟨rfl, hb⟩
abbrev KV:= List (List UInt8 × ByteArray)
def KV.bits (l : KV) : List (Bits × ByteArray):= l.map fun x => (kb x.1, x.2)
def KV.prs (l : KV) : List (ByteArray × ByteArray):= l.map fun x => (Tw.S x.1, x.2)
def KV.ok (l : KV) : Prop:= ∀ x, x ∈ l -> x.1 ≠ [] /\ x.1.length <= 4 /\ x.2.size <= 1000000
theorem kv_split {l : KV} {a b : List (Bits × ByteArray)} (h : l.bits = a ++ b) : ∃ l1 l2 : KV, l = l1 ++ l2 /\ l1.bits = a /\ l2.bits = b:= by
 obtain ⟨l1, l2, h1, h2, h3⟩:= List.map_eq_append_iff.1 h
 exact ⟨l1, l2, h1, h2, h3⟩
theorem walk_path {t : T ByteArray} {L : List (Bits × ByteArray)} (h : Rep L t) {above : Bits} {l : KV} (hw : t.walk above = l.bits) (hok : l.ok) (hne : t.isEmpty = false) : (above ++ t.path).length <= 40:= by
 rw [rep_walk h] at hw
 have hL : L ≠ []:= fun e => by
   have:= (rep_isEmpty h).2 e
   rw [hne] at this; cases this
 obtain ⟨x, hx⟩:= rep_ne h hL
 obtain ⟨y, hy⟩:= rep_mem_path h x hx
 have hm : pre above x ∈ l.bits:= hw ▸ List.mem_map.2 ⟨x, hx, rfl⟩
 obtain ⟨z, hz, e⟩:= List.mem_map.1 hm
 have h4:= (hok z hz).2.1
 have e1:= congrArg (fun p => p.1.length) e
 simp only [pre, kb_length, hy, List.length_append] at e1
 simp only [List.length_append]
 omega
theorem walk_any {w0 : World} : ∀ (t : T ByteArray) (above : Bits) (L : List (Bits × ByteArray)) (l : KV) (b : Nat), Rep L t -> t.walk above = l.bits -> l.ok -> TAt dg w0 t b -> above.length <= 100 ->
   ∀ (ps : List (ByteArray × ByteArray)) (v : Value) (w : World), Below w0.heap.size w0 w -> w0.heap.size <= w.heap.size -> OwnP w0.heap.size w v ps -> ps.length + l.length <= 50000 ->
   Calls Tryz.prog 42 #[.pointer (ptr b), .string (str above), v] w fun e w' => ∃ v', e = .returned v' /\ OwnP w0.heap.size w' v' (ps ++ l.prs) /\ Below w0.heap.size w0 w'
 | .empty, above, L, l, b, hr, hw, hok, hT, ha, ps, v, w, hB, hz, hO, hn => by
   have hl : l = []:= List.map_eq_nil_iff.1 hw.symm
   subst hl
   obtain ⟨_, d, s, h, _⟩:= TAt.below hT hB
   refine (walk_empty h (by rw [str_size]; omega) (by decide)).mono ?_
   rintro e w' ⟨rfl, rfl⟩
   exact ⟨_, rfl, by simpa [KV.prs] using hO, hB⟩
 | .leaf p x, above, L, l, b, hr, hw, hok, hT, ha, ps, v, w, hB, hz, hO, hn => by
   have hlt:= TAt.lt hT
   have hpl:= walk_path hr hw hok rfl
   obtain ⟨_, d, s, h, _⟩:= TAt.below hT hB
   obtain ⟨z, rfl, hz1⟩ : ∃ z, l = [z] /\ (kb z.1, z.2) = (above ++ p, x):= by
     cases l with
     | nil => cases hw
     | cons z l => cases l with
       | nil => exact ⟨z, rfl, by have:= hw; simp only [T.walk, KV.bits, List.map_cons, List.map_nil, List.cons.injEq, and_true] at this; exact this.symm⟩
       | cons _ _ => have:= congrArg List.length hw; simp [T.walk, KV.bits] at this
   obtain ⟨hk0, hk4, hv⟩:= hok z List.mem_cons_self
   have e1 : kb z.1 = above ++ p:= congrArg Prod.fst hz1
   have e2 : z.2 = x:= congrArg Prod.snd hz1
   subst e2
   simp only [T.path, List.length_append] at hpl
   refine (walk_leaf (K0:= Tw.S z.1) h hlt hz (by rw [str_size]; omega) (by show (str p).size <= _; rw [str_size]; omega) (by omega) hO (fun w1 => ?_) (fun w1 => clone_any _ w1 (by show z.2.size <= _; omega))).mono ?_
   . show Calls _ _ #[.string (str above ++ str p)] _ _
     rw [str_append, <- e1]
     exact key_any z.1 w1 hk0 hk4
   . rintro e w' ⟨v', rfl, h1, h2⟩
     exact ⟨v', rfl, h1, hB.trans h2⟩
 | .branch p tl tr, above, L, l, b, hr, hw, hok, hT, ha, ps, v, w, hB, hz, hO, hn => by
   have hpl:= walk_path hr hw hok rfl
   cases hr with
   | @branch l0 l1 _ _ _ n0 n1 r0 r1 =>
     obtain ⟨_, bl, br, d, s, h, hTl, hTr, _⟩:= hT
     have h':= NodeAt.below h hB
     obtain ⟨la, lb, rfl, ea, eb⟩:= kv_split (l:= l) hw.symm
     simp only [T.path, List.length_append] at hpl
     have hoka : KV.ok la:= fun x hx => hok x (List.mem_append_left _ hx)
     have hokb : KV.ok lb:= fun x hx => hok x (List.mem_append_right _ hx)
     have hnl : la.length + lb.length = (la ++ lb).length:= by simp
     refine (walk_branch (A0:= str above) (P0:= str p) (AP:= str (above ++ p)) (S0:= str [false]) (S1:= str [true]) (L0:= str (above ++ p ++ [false])) (L1:= str (above ++ p ++ [true]))
       (R:= fun k w' v' => Below w0.heap.size w0 w' /\ w0.heap.size <= w'.heap.size /\ OwnP w0.heap.size w' v' (if k = 0 then ps else if k = 1 then ps ++ la.prs else ps ++ la.prs ++ lb.prs))
       h' (by rw [str_size]; omega) (by rw [str_size]; omega) (str_append _ _) (by rw [str_size]; simp; omega) (by rw [str_size]; rfl) (by rw [str_size]; rfl) (str_append _ _) (str_append _ _)
       (fun w1 => sign_any false w1) (fun w1 => sign_any true w1) ⟨hB, hz, hO⟩ ?_ ?_).mono ?_
     . rintro w1 v1 ⟨k1, k2, k3⟩
       refine (walk_any tl (above ++ p ++ [false]) l0 la bl r0 ea.symm hoka hTl (by simp; omega) ps v1 w1 k1 k2 k3 (by omega)).mono ?_
       rintro e w' ⟨v', rfl, g1, g2⟩
       exact ⟨v', rfl, g2, g2.size, g1⟩
     . rintro w1 v1 ⟨k1, k2, k3⟩
       refine (walk_any tr (above ++ p ++ [true]) l1 lb br r1 eb.symm hokb hTr (by simp; omega) (ps ++ la.prs) v1 w1 k1 k2 k3 (by simp [KV.prs]; omega)).mono ?_
       rintro e w' ⟨v', rfl, g1, g2⟩
       exact ⟨v', rfl, g2, g2.size, g1⟩
     . rintro e w' ⟨v', rfl, g1, g2, g3⟩
       refine ⟨v', rfl, ?_, g1⟩
       have : KV.prs (la ++ lb) = la.prs ++ lb.prs:= by simp [KV.prs]
       rw [this, <- List.append_assoc]
       exact g3
end Go.Proofs.YtddcbeeldjjmeaaGreat
