/- SEALING A TREE: what is asked, what comes of it;. -/
import Derived.Test.YtddcbeeldjjmeaaGreatPart14
import Derived.Test.YtddcbeeldjjmeaaGreatPart15
import Derived.Test.YtddcbeeldjjmeaaGreatPart18
import Derived.Test.YtddcbeeldjjmeaaGreatPart19
namespace Go.Proofs.YtddcbeeldjjmeaaGreat
open Go Go.Conc Go.Eq Go.Nest Go.RowKit Go.Conc.Lib Go.ConcR.Gen
open Go.ConcR (DC0)
open Go.ConcN (WgLive)
def nodeBytes (kind : Int) (p v : ByteArray) (l r : Int) : List UInt8:= (Pu.encN ⟨kind, p.data.toList, v.data.toList, l, r⟩).getD []
def dgw (n : Nat) (kind : Int) (p v : ByteArray) (l r : Int) : Int:= (Dig.dig n (nodeBytes kind p v l r) : Int)
def Wf : Tr -> Prop
 | .empty => True
 | .leaf p v => Pu.isPb p.data.toList = true /\ v.size <= 20
 | .branch p l r => Pu.isPb p.data.toList = true /\ Wf l /\ Wf r
theorem dig_bits (n : Nat) (hn : n <= 32) (l : List UInt8) : Dig.dig n l < 4294967296:= by
 unfold Dig.dig
 have h:= Dig.pow32 n hn
 have h2:= Dig.pow_pos' n
 have:= Nat.mod_lt (Dig.fnv l ^^^ Dig.fnv l / 32768) h2
 omega
theorem dgw_32 (n : Nat) (hn : n <= 32) (kind : Int) (p v : ByteArray) (l r : Int) : Pu.is32 (dgw n kind p v l r) = true:= by
 have:= dig_bits n hn (nodeBytes kind p v l r)
 unfold Pu.is32 dgw
 exact decide_eq_true (by omega)
theorem Tr.dig_32 (n : Nat) (hn : n <= 32) (t : Tr) : Pu.is32 (t.dig (dgw n)) = true:= by
 cases t <;> exact dgw_32 n hn _ _ _ _ _
theorem enc_len {m : Pu.Nd} {b : List UInt8} (h : Pu.encN m = some b) : b.length <= 100:= by
 have hnum : ∀ x, (Pu.eNum x).length <= 10:= fun x => Tw.eNumF_len 10 x
 unfold Pu.encN at h
 split at h
 . cases h; simp
 . split at h
   . rename_i h1
     cases h
     have h2:= Tw.ePath_len m.path ((Pu.isPb_iff _).1 h1.2.1)
     have:= hnum m.value.length
     simp only [List.length_cons, List.length_append, Pu.eVal]
     omega
   . split at h
     . rename_i h1
       cases h
       have h2:= Tw.ePath_len m.path ((Pu.isPb_iff _).1 h1.2.1)
       simp [Pu.e4]
       omega
     . cases h
def Tr.sideDigs (dg : Int -> ByteArray -> ByteArray -> Int -> Int -> Int) : Tr -> Int × Int
 | .branch _ l r => (l.dig dg, r.dig dg)
 | _ => (0, 0)
theorem Tr.dig_eq (dg : Int -> ByteArray -> ByteArray -> Int -> Int -> Int) (t : Tr) : t.dig dg = dg t.kind t.path t.value (Tr.sideDigs dg t).1 (Tr.sideDigs dg t).2:= by
 cases t <;> rfl
theorem enc_some (n : Nat) (hn : n <= 32) (t : Tr) (hW : Wf t) : Pu.encN ⟨t.kind, t.path.data.toList, t.value.data.toList, (Tr.sideDigs (dgw n) t).1, (Tr.sideDigs (dgw n) t).2⟩ = some (nodeBytes t.kind t.path t.value (Tr.sideDigs (dgw n) t).1 (Tr.sideDigs (dgw n) t).2):= by
 have key : ∀ m : Pu.Nd, (∃ b, Pu.encN m = some b) -> Pu.encN m = some ((Pu.encN m).getD []):= fun m ⟨b, h⟩ => by rw [h]; rfl
 unfold nodeBytes
 refine key _ ?_
 cases t with
 | empty => exact ⟨[2], by simp [Pu.encN, Pu.empty, Tr.kind, Tr.path, Tr.value, Tr.sideDigs, noText]⟩
 | leaf p v =>
   have h1 : ¬ (⟨0, p.data.toList, v.data.toList, 0, 0⟩ : Pu.Nd) = Pu.empty:= fun h => by
     have:= congrArg Pu.Nd.kind h
     cases this
   have h3 : v.data.toList.length <= 20:= hW.2
   have h2 : (⟨0, p.data.toList, v.data.toList, 0, 0⟩ : Pu.Nd).kind = 0 /\ Pu.isPb p.data.toList = true /\ v.data.toList.length <= 20 /\ (0 : Int) = 0 /\ (0 : Int) = 0:= ⟨rfl, hW.1, h3, rfl, rfl⟩
   show ∃ b, Pu.encN ⟨0, p.data.toList, v.data.toList, 0, 0⟩ = some b
   unfold Pu.encN
   rw [if_neg h1, if_pos h2]
   exact ⟨_, rfl⟩
 | branch p l r =>
   have h1 : ¬ (⟨1, p.data.toList, [], l.dig (dgw n), r.dig (dgw n)⟩ : Pu.Nd) = Pu.empty:= fun h => by
     have:= congrArg Pu.Nd.kind h
     cases this
   have h0 : ¬ ((1 : Int) = 0 /\ Pu.isPb p.data.toList = true /\ ([] : List UInt8).length <= 20 /\ l.dig (dgw n) = 0 /\ r.dig (dgw n) = 0):= fun h => by cases h.1
   have h2 : (1 : Int) = 1 /\ Pu.isPb p.data.toList = true /\ ([] : List UInt8) = [] /\ Pu.is32 (l.dig (dgw n)) = true /\ Pu.is32 (r.dig (dgw n)) = true:= ⟨rfl, hW.1, rfl, Tr.dig_32 n hn l, Tr.dig_32 n hn r⟩
   show ∃ b, Pu.encN ⟨1, p.data.toList, [], l.dig (dgw n), r.dig (dgw n)⟩ = some b
   unfold Pu.encN
   rw [if_neg h1, if_neg h0, if_pos h2]
   exact ⟨_, rfl⟩
theorem node_call (n : Nat) (hn : n <= 32) (t : Tr) (hW : Wf t) (u : World) :
   Calls Tryz.prog 65 #[.agg #[.int .i64 t.kind, .string t.path, .string t.value, .int .i64 (Tr.sideDigs (dgw n) t).1, .int .i64 (Tr.sideDigs (dgw n) t).2]] u fun e _ =>
     e = .returned (.string (Tw.S (nodeBytes t.kind t.path t.value (Tr.sideDigs (dgw n) t).1 (Tr.sideDigs (dgw n) t).2))):= by
 have h:= Tw.put_ok _ _ u (enc_some n hn t hW)
 simp only [Tw.nodeV, Tw.S_of] at h
 exact h.mono fun e w' he => he.1
theorem of_call (n : Nat) (hn : n <= 32) (t : Tr) (hW : Wf t) (u : World) :
   Calls Tryz.prog 64 #[.int .i64 n, .string (Tw.S (nodeBytes t.kind t.path t.value (Tr.sideDigs (dgw n) t).1 (Tr.sideDigs (dgw n) t).2))] u fun e _ => e = .returned (.int .i64 (t.dig (dgw n))):= by
 have hl:= enc_len (enc_some n hn t hW)
 have h:= Dig.of_any n (Tw.S (nodeBytes t.kind t.path t.value (Tr.sideDigs (dgw n) t).1 (Tr.sideDigs (dgw n) t).2)) u hn (by rw [Tw.S_size]; unfold maxLen; omega)
 refine h.mono fun e w' he => ?_
 rw [he.1, Tw.S_list, Tr.dig_eq]
 rfl
def scal : Value -> Bool
 | .bool _ | .int _ _ | .string _ => true
 | _ => false
theorem scal_eq [Env] {π : Ren} {v v' : Value} (h : VRel π v v') (hs : scal v = true) : v' = v:= by
 cases h <;> first | rfl | cases hs
theorem agg_eq [Env] {π : Ren} {cs : Array Value} {v' : Value} (h : VRel π (.agg cs) v') (hs : cs.all scal = true) : v' = .agg cs:= by
 cases h with
 | @agg _ c' h1 h2 =>
   congr 1
   refine Array.ext_getElem? fun i => ?_
   have hv : VsRel π cs c':= ⟨h1, h2⟩
   rcases hv.get? i with ⟨e1, e2⟩ | ⟨x, x', e1, e2, e3⟩
   . rw [e1, e2]
   . rw [e1, e2]
     rw [Array.all_eq_true'] at hs
     rw [scal_eq e3 (hs x (Array.mem_of_getElem? e1))]
section
variable {A : Nat -> Prop} {ty : TypeId} {FinN : Perm -> Perm -> Goroutine -> World -> Prop} {c : Cfg} {w : World} {b : Frame} {cs : List Frame} {n : Nat}
theorem heap_low {c : Cfg} {w : World} (S : Snug c w) {x : Nat} (h : Rq A c x) : 0 <= w.heap.size:= by
 have:= S.low ⟨x, 0, none⟩ (h.2 _ rfl)
 have h2:= h.1.1
 show 0 <= w.heap.size
 exact Nat.le_of_lt (Nat.lt_of_le_of_lt h2 this)
theorem sd_r {R : Nat -> Prop} {dg : Int -> ByteArray -> ByteArray -> Int -> Int -> Int} {t : Tr} {x : Nat} (h : Sd nodeT dg R w t x) : R x:= by
 cases t <;> exact h.1
theorem sd_node {R : Nat -> Prop} {dg : Int -> ByteArray -> ByteArray -> Int -> Int -> Int} {t : Tr} {x : Nat} (h : Sd nodeT dg R w t x) : ∃ l r, NodeAt nodeT w x t.kind t.path t.value l r (t.dig dg) true /\ (∀ y, l = ptr y -> ∃ t', Sd nodeT dg R w t' y) /\ (∀ y, r = ptr y -> ∃ t', Sd nodeT dg R w t' y) /\ (l = none \/ ∃ y, l = ptr y) /\ (r = none \/ ∃ y, r = ptr y):= by
 cases t with
 | empty => exact ⟨none, none, h.2, fun y e => (by cases e), fun y e => (by cases e), .inl rfl, .inl rfl⟩
 | leaf p v => exact ⟨none, none, h.2, fun y e => (by cases e), fun y e => (by cases e), .inl rfl, .inl rfl⟩
 | branch p tl tr =>
   obtain ⟨_, bl, br, h1, h2, h3⟩:= h
   exact ⟨_, _, h1, fun y e => (by cases e; exact ⟨tl, h2⟩), fun y e => (by cases e; exact ⟨tr, h3⟩), .inr ⟨bl, rfl⟩, .inr ⟨br, rfl⟩⟩
theorem cells_names {D : Nat -> Prop} {kind : Int} {p v : ByteArray} {l r : Option Addr} {d : Int} {s : Bool} (hl : l = none \/ ∃ y, l = ptr y /\ D y /\ 0 <= y) (hr : r = none \/ ∃ y, r = ptr y /\ D y /\ 0 <= y) :
   ∀ (i : Nat) x, (nodeCells kind p v l r d s)[i]? = some x -> Names 0 D x:= by
 have key : ∀ o : Option Addr, (o = none \/ ∃ y, o = ptr y /\ D y /\ 0 <= y) -> Names 0 D (.pointer o):= by
   rintro o (rfl | ⟨y, rfl, h1, h2⟩)
   . rfl
   . exact ⟨rfl, h1, h2⟩
 intro i x h
 have hi : i < 7:= by
   have:= (Array.getElem?_eq_some_iff.1 h).1
   simpa [nodeCells] using this
 have hc : i = 0 \/ i = 1 \/ i = 2 \/ i = 3 \/ i = 4 \/ i = 5 \/ i = 6:= by omega
 rcases hc with rfl | rfl | rfl | rfl | rfl | rfl | rfl <;> (simp [nodeCells] at h; subst h) <;> first | rfl | exact key _ hl | exact key _ hr
theorem told_sc (S : Snug c w) {t : Tr} {bw : Nat} {lp rp : Option Addr} {d : Int} {s : Bool} (hB : NodeAt nodeT w bw t.kind t.path t.value lp rp d s) (hR : Rq A c bw)
   (hch : ∀ p tl tr, t = .branch p tl tr -> ∃ bl br, lp = ptr bl /\ rp = ptr br /\ Sd nodeT (dgw n) (Rq A c) w tl bl /\ Sd nodeT (dgw n) (Rq A c) w tr br) (hno : t.kind ≠ 1 -> lp = none /\ rp = none)
   (K : ∀ c' w', Ext ty c w c' w' -> ScS ty Tryz.prog FinN .work c' (live (b.finish (.agg #[.int .i64 t.kind, .string t.path, .string t.value, .int .i64 (Tr.sideDigs (dgw n) t).1, .int .i64 (Tr.sideDigs (dgw n) t).2])) cs) w') :
   ScS ty Tryz.prog FinN .work c (live (Frame.enter Tryz.prog 66 #[.pointer (some ⟨bw, 0, none⟩)] .normal) (b :: cs)) w:= by
 let D : Nat -> Prop:= fun x => x = bw \/ ∃ t', Sd nodeT (dgw n) (Rq A c) w t' x
 have hside : ∀ o : Option Addr, o = none \/ (∃ y t', o = ptr y /\ Sd nodeT (dgw n) (Rq A c) w t' y) -> o = none \/ ∃ y, o = ptr y /\ D y /\ 0 <= y:= by
   rintro o (h | ⟨y, t', h1, h2⟩)
   . exact .inl h
   . exact .inr ⟨y, h1, .inr ⟨t', h2⟩, (sd_r h2).1.1⟩
 have hlr : (lp = none \/ ∃ y t', lp = ptr y /\ Sd nodeT (dgw n) (Rq A c) w t' y) /\ (rp = none \/ ∃ y t', rp = ptr y /\ Sd nodeT (dgw n) (Rq A c) w t' y):= by
   cases t with
   | empty => obtain ⟨rfl, rfl⟩:= hno (by show (2 : Int) ≠ 1; decide); exact ⟨.inl rfl, .inl rfl⟩
   | leaf p v => obtain ⟨rfl, rfl⟩:= hno (by show (0 : Int) ≠ 1; decide); exact ⟨.inl rfl, .inl rfl⟩
   | branch p tl tr =>
     obtain ⟨bl, br, rfl, rfl, h1, h2⟩:= hch p tl tr rfl
     exact ⟨.inr ⟨bl, tl, rfl, h1⟩, .inr ⟨br, tr, rfl, h2⟩⟩
 have hD : ∀ x, D x -> Rof c x /\ ∃ cells t fr, w.heap[x]? = some (.cells cells t fr) /\ ∀ (i : Nat) v, cells[i]? = some v -> Names 0 D v:= by
   rintro x (rfl | ⟨t', h⟩)
   . obtain ⟨fr, hB⟩:= hB
     exact ⟨hR.2, _, _, _, hB, cells_names (hside _ hlr.1) (hside _ hlr.2)⟩
   . obtain ⟨l, r, ⟨fr, h1⟩, h2, h3, h4, h5⟩:= sd_node h
     exact ⟨(sd_r h).2, _, _, _, h1, cells_names (hside _ (h4.imp id fun ⟨y, e⟩ => let ⟨t', ht⟩:= h2 y e; ⟨y, t', e, ht⟩)) (hside _ (h5.imp id fun ⟨y, e⟩ => let ⟨t', ht⟩:= h3 y e; ⟨y, t', e, ht⟩))⟩
 refine call_ro (D:= D) (low:= 0) (fns:= fns) (fitting D) (by simp [fns]) S (heap_low S hR) hD (names_vs fun i v hi => ?_) (fun π v' h => @agg_eq (envOf fns D 0) π _ v' h (by simp [scal])) (fun u hsz hu => ?_) K
 . have : i = 0:= by
     have:= (Array.getElem?_eq_some_iff.1 hi).1
     simp at this; exact this
   subst this
   simp at hi
   subst hi
   exact ⟨rfl, .inl rfl, hR.1.1⟩
 . have hcell : ∀ x kind p v l r d s, D x -> NodeAt nodeT w x kind p v l r d s -> ∀ i, u.cell? ⟨x, i, none⟩ = (nodeCells kind p v l r d s)[i]?:= by
     rintro x kind p v l r d s hx ⟨fr, h⟩ i
     obtain ⟨fr', h'⟩:= hu x _ _ _ hx h
     exact node_cell ⟨fr', h'⟩ i
   have hb:= hcell bw _ _ _ _ _ _ _ (.inl rfl) hB
   cases t with
   | empty => exact told_leaf u bw 2 noText noText (by decide) (hb 0) (hb 1) (hb 2)
   | leaf p v => exact told_leaf u bw 0 p v (by decide) (hb 0) (hb 1) (hb 2)
   | branch p tl tr =>
     obtain ⟨bl, br, rfl, rfl, h1, h2⟩:= hch p tl tr rfl
     obtain ⟨_, _, g1, -⟩:= sd_node h1
     obtain ⟨_, _, g2, -⟩:= sd_node h2
     exact told_branch u bw bl br p noText _ _ (hb 0) (hb 1) (hb 2) (hb 3) (hb 4) (hcell bl _ _ _ _ _ _ _ (.inr ⟨tl, h1⟩) g1 5) (hcell br _ _ _ _ _ _ _ (.inr ⟨tr, h2⟩) g2 5)
theorem plain_sc {f : FuncId} {args : Array Value} {v : Value} (hf : f ∈ fns) (S : Snug c w) (hlow : 0 <= w.heap.size) (hargs : args.all (fun x => match x with | .agg l => l.all scal | x => scal x) = true) (hv : scal v = true)
   (hcall : ∀ u : World, Calls Tryz.prog f args u fun e _ => e = .returned v) (K : ∀ c' w', Ext ty c w c' w' -> ScS ty Tryz.prog FinN .work c' (live (b.finish v) cs) w') :
   ScS ty Tryz.prog FinN .work c (live (Frame.enter Tryz.prog f args .normal) (b :: cs)) w:= by
 refine call_ro (D:= fun _ => False) (low:= 0) (fns:= fns) (fitting _) hf S hlow (fun x h => h.elim) ?_ (fun π v' h => @scal_eq (envOf fns (fun _ => False) 0) π v v' h hv) (fun u _ _ => hcall u) K
 letI:= envOf fns (fun _ => False) 0
 refine .of_get? rfl fun i x x' e e' => ?_
 rw [e] at e'; cases e'
 rw [Array.all_eq_true'] at hargs
 have:= hargs x (Array.mem_of_getElem? e)
 have hsc : ∀ y, scal y = true -> VRel (renOn fun _ => False) y y:= fun y hy => by
   cases y <;> first | cases hy | skip
   . exact .bool _
   . exact .int _ _
   . exact .string _
 cases x <;> first | exact hsc _ this | skip
 rename_i l
 have hl : VsRel (renOn fun _ => False) l l:= by
   refine .of_get? rfl fun i x x' e e' => ?_
   rw [e] at e'; cases e'
   have h2 : l.all scal = true:= this
   rw [Array.all_eq_true'] at h2
   exact hsc x (h2 x (Array.mem_of_getElem? e))
 exact .agg hl.1 hl.2
end
structure Calm (c : Cfg) : Prop where
 deaf : c.deaf = 0
 cur : c.cur = none
 pend : c.pend = false
 kids : c.kids = []
 ub : c.ub = 0
section
variable {A : Nat -> Prop} {ty : TypeId} {FinN : Perm -> Perm -> Goroutine -> World -> Prop} {n : Nat}
def Two (bw : Nat) (a : Addr) : Prop:= a = ⟨bw, 3, none⟩ \/ a = ⟨bw, 4, none⟩
def Off (A : Nat -> Prop) (c : Cfg) (bw : Nat) (x : Nat) : Prop:= Rq A c x /\ x ≠ bw
def Ofr (A : Nat -> Prop) (c : Cfg) (bw : Nat) (x : Nat) : Prop:= Rr A c x /\ x ≠ bw
def SidesK (A : Nat -> Prop) (ty : TypeId) (FinN : Perm -> Perm -> Goroutine -> World -> Prop) (n : Nat) (tl tr : Tr) (bw : Nat) (c : Cfg) (w : World) (b : Frame) (cs : List Frame) : Prop :=
 ∀ c' w' bl br, ExtX ty (Two bw) c w c' w' -> w'.cell? ⟨bw, 3, none⟩ = some (.pointer (ptr bl)) -> w'.cell? ⟨bw, 4, none⟩ = some (.pointer (ptr br)) -> Sd nodeT (dgw n) (Off A c' bw) w' tl bl -> Sd nodeT (dgw n) (Off A c' bw) w' tr br ->
   ScS ty Tryz.prog FinN .work c' (G (b.finish (.tuple #[])) cs) w'
def SidesOk (ty : TypeId) (FinN : Perm -> Perm -> Goroutine -> World -> Prop) (n : Nat) (forks : Nat) (tl tr : Tr) : Prop :=
 ∀ (A : Nat -> Prop) (c : Cfg) (w : World) (bw bl br : Nat) (b : Frame) (cs : List Frame), Calm c -> Snug c w -> (∀ x, A x -> x < w.heap.size) -> 0 <= bw -> c.own ⟨bw, 3, none⟩ -> c.own ⟨bw, 4, none⟩ -> ¬ c.rd ⟨bw, 3, none⟩ -> ¬ c.rd ⟨bw, 4, none⟩ ->
   w.cell? ⟨bw, 3, none⟩ = some (.pointer (ptr bl)) -> w.cell? ⟨bw, 4, none⟩ = some (.pointer (ptr br)) -> w.frozen? ⟨bw, 3, none⟩ = false -> w.frozen? ⟨bw, 4, none⟩ = false ->
   Nd nodeT (dgw n) (Ofr A c bw) w tl bl -> Nd nodeT (dgw n) (Ofr A c bw) w tr br -> SidesK A ty FinN n tl tr bw c w b cs ->
   ScS ty Tryz.prog FinN .work c (live (Frame.enter Tryz.prog 63 #[.slice (some ⟨bw, 3, none⟩) 2 2, .int .i64 n, .int .i64 forks] .normal) (b :: cs)) w
def SealOk (ty : TypeId) (FinN : Perm -> Perm -> Goroutine -> World -> Prop) (n : Nat) (forks : Nat) (t : Tr) : Prop :=
 ∀ (A : Nat -> Prop) (c : Cfg) (w : World) (bn : Nat) (b : Frame) (cs : List Frame), Calm c -> Snug c w -> (∀ x, A x -> x < w.heap.size) -> Nd nodeT (dgw n) (Rr A c) w t bn -> SealK A ty (dgw n) FinN t c w b cs ->
   ScS ty Tryz.prog FinN .work c (live (Frame.enter Tryz.prog 50 #[.pointer (ptr bn), .int .i64 n, .int .i64 forks] .normal) (b :: cs)) w
theorem array52 (T : Array Value) (h : T.size = 52) : ∃ v0 v1 v2 v3 v4 v5 v6 v7 v8 v9 v10 v11 v12 v13 v14 v15 v16 v17 v18 v19 v20 v21 v22 v23 v24 v25 v26 v27 v28 v29 v30 v31 v32 v33 v34 v35 v36 v37 v38 v39 v40 v41 v42 v43 v44 v45 v46 v47 v48 v49 v50 v51 : Value, T = #[v0, v1, v2, v3, v4, v5, v6, v7, v8, v9, v10, v11, v12, v13, v14, v15, v16, v17, v18, v19, v20, v21, v22, v23, v24, v25, v26, v27, v28, v29, v30, v31, v32, v33, v34, v35, v36, v37, v38, v39, v40, v41, v42, v43, v44, v45, v46, v47, v48, v49, v50, v51]:= by
 obtain ⟨l⟩:= T
 simp only [List.size_toArray] at h
 rcases l with _ | ⟨v0, l⟩
 . simp at h
 rcases l with _ | ⟨v1, l⟩
 . simp at h
 rcases l with _ | ⟨v2, l⟩
 . simp at h
 rcases l with _ | ⟨v3, l⟩
 . simp at h
 rcases l with _ | ⟨v4, l⟩
 . simp at h
 rcases l with _ | ⟨v5, l⟩
 . simp at h
 rcases l with _ | ⟨v6, l⟩
 . simp at h
 rcases l with _ | ⟨v7, l⟩
 . simp at h
 rcases l with _ | ⟨v8, l⟩
 . simp at h
 rcases l with _ | ⟨v9, l⟩
 . simp at h
 rcases l with _ | ⟨v10, l⟩
 . simp at h
 rcases l with _ | ⟨v11, l⟩
 . simp at h
 rcases l with _ | ⟨v12, l⟩
 . simp at h
 rcases l with _ | ⟨v13, l⟩
 . simp at h
 rcases l with _ | ⟨v14, l⟩
 . simp at h
 rcases l with _ | ⟨v15, l⟩
 . simp at h
 rcases l with _ | ⟨v16, l⟩
 . simp at h
 rcases l with _ | ⟨v17, l⟩
 . simp at h
 rcases l with _ | ⟨v18, l⟩
 . simp at h
 rcases l with _ | ⟨v19, l⟩
 . simp at h
 rcases l with _ | ⟨v20, l⟩
 . simp at h
 rcases l with _ | ⟨v21, l⟩
 . simp at h
 rcases l with _ | ⟨v22, l⟩
 . simp at h
 rcases l with _ | ⟨v23, l⟩
 . simp at h
 rcases l with _ | ⟨v24, l⟩
 . simp at h
 rcases l with _ | ⟨v25, l⟩
 . simp at h
 rcases l with _ | ⟨v26, l⟩
 . simp at h
 rcases l with _ | ⟨v27, l⟩
 . simp at h
 rcases l with _ | ⟨v28, l⟩
 . simp at h
 rcases l with _ | ⟨v29, l⟩
 . simp at h
 rcases l with _ | ⟨v30, l⟩
 . simp at h
 rcases l with _ | ⟨v31, l⟩
 . simp at h
 rcases l with _ | ⟨v32, l⟩
 . simp at h
 rcases l with _ | ⟨v33, l⟩
 . simp at h
 rcases l with _ | ⟨v34, l⟩
 . simp at h
 rcases l with _ | ⟨v35, l⟩
 . simp at h
 rcases l with _ | ⟨v36, l⟩
 . simp at h
 rcases l with _ | ⟨v37, l⟩
 . simp at h
 rcases l with _ | ⟨v38, l⟩
 . simp at h
 rcases l with _ | ⟨v39, l⟩
 . simp at h
 rcases l with _ | ⟨v40, l⟩
 . simp at h
 rcases l with _ | ⟨v41, l⟩
 . simp at h
 rcases l with _ | ⟨v42, l⟩
 . simp at h
 rcases l with _ | ⟨v43, l⟩
 . simp at h
 rcases l with _ | ⟨v44, l⟩
 . simp at h
 rcases l with _ | ⟨v45, l⟩
 . simp at h
 rcases l with _ | ⟨v46, l⟩
 . simp at h
 rcases l with _ | ⟨v47, l⟩
 . simp at h
 rcases l with _ | ⟨v48, l⟩
 . simp at h
 rcases l with _ | ⟨v49, l⟩
 . simp at h
 rcases l with _ | ⟨v50, l⟩
 . simp at h
 rcases l with _ | ⟨v51, l⟩
 . simp at h
 rcases l with _ | ⟨x, l⟩
 . exact ⟨_, _, _, _, _, _, _, _, _, _, _, _, _, _, _, _, _, _, _, _, _, _, _, _, _, _, _, _, _, _, _, _, _, _, _, _, _, _, _, _, _, _, _, _, _, _, _, _, _, _, _, _, rfl⟩
 . simp at h
theorem hush_sides (a : Addr) (w : World) (es : Array Event) : (Instr.sliceAt 87 (.pointer (some a)) none none none).events Tryz.prog w es = es:= by
 simp [Instr.sliceAt, Instr.sliceBounds, Instr.sureAddr, Sem.events_bind, Hush.underlying _ _, Hush.sizeOf _ _, Tryz.runUnderlying87, go_sem]
structure Fb (A : Nat -> Prop) (ty : TypeId) (n : Nat) (c : Cfg) (w : World) (t : Tr) (bn : Nat) (l r : Option Addr) (bw : Nat) (c' : Cfg) (x : World) : Prop where
 ext : Ext ty c w c' x
 nd : Nd nodeT (dgw n) (Ofr A c' bw) x t bn
 at_ : ∃ d s, NodeAt nodeT x bn t.kind t.path t.value l r d s
 box : Boxed w t l r bw c' x
theorem fb_rely {c c' : Cfg} {w x y : World} {t : Tr} {bn bw : Nat} {l r : Option Addr} (h : Fb A ty n c w t bn l r bw c' x) (hr : Rely ty c' x y) : Fb A ty n c w t bn l r bw c' y :=
 ⟨h.ext.go hr, h.nd.same fun a ha => hr.same a (ha.1.2 a rfl), let ⟨d, s, e⟩:= h.at_; ⟨d, s, e.same fun a ha => hr.same a (h.nd.node.1.1.2 a ha)⟩, h.box.rely hr⟩
theorem node_inj {w : World} {b : Nat} {kind kind' : Int} {p v p' v' : ByteArray} {l r l' r' : Option Addr} {d d' : Int} {s s' : Bool} (h : NodeAt nodeT w b kind p v l r d s) (h' : NodeAt nodeT w b kind' p' v' l' r' d' s') : l' = l /\ r' = r:= by
 have e3:= (node_cell h 3).symm.trans (node_cell h' 3)
 have e4:= (node_cell h 4).symm.trans (node_cell h' 4)
 simp [nodeCells] at e3 e4
 exact ⟨e3.symm, e4.symm⟩
theorem fb_kids {c c' : Cfg} {w x : World} {t : Tr} {bn bw : Nat} {l r : Option Addr} (h : Fb A ty n c w t bn l r bw c' x) {p : ByteArray} {tl tr : Tr} (ht : t = .branch p tl tr) : ∃ bl br, l = ptr bl /\ r = ptr br /\ Nd nodeT (dgw n) (Ofr A c' bw) x tl bl /\ Nd nodeT (dgw n) (Ofr A c' bw) x tr br:= by
 obtain ⟨_, l', r', d', s', hN, _, hb, _⟩:= h.nd.node
 obtain ⟨d, s, hN2⟩:= h.at_
 obtain ⟨rfl, rfl⟩:= node_inj hN2 hN
 exact hb p tl tr ht
theorem fb_no {c c' : Cfg} {w x : World} {t : Tr} {bn bw : Nat} {l r : Option Addr} (h : Fb A ty n c w t bn l r bw c' x) (hk : t.kind ≠ 1) : l = none /\ r = none:= by
 obtain ⟨_, l', r', d', s', hN, _, _, hn⟩:= h.nd.node
 obtain ⟨d, s, hN2⟩:= h.at_
 obtain ⟨rfl, rfl⟩:= node_inj hN2 hN
 exact hn hk
theorem fb_low {c c' : Cfg} {w x : World} {t : Tr} {bn bw : Nat} {l r : Option Addr} (S : Snug c w) (hA : ∀ x, A x -> x < w.heap.size) (hNd : Nd nodeT (dgw n) (Rr A c) w t bn) (h : Fb A ty n c w t bn l r bw c' x) : 0 <= bw /\ ¬ A bw:= by
 have hR : Rr A c bn:= hNd.node.1
 have h1 : bn < w.heap.size:= S.low ⟨bn, 0, none⟩ (hR.2 _ rfl)
 exact ⟨Nat.le_trans hR.1.1.1 (Nat.le_of_lt (Nat.lt_of_lt_of_le h1 h.box.new)), fun e => Nat.lt_irrefl _ (Nat.lt_of_lt_of_le (hA _ e) h.box.new)⟩
theorem node_two {w x : World} {bw bl br : Nat} {kind : Int} {p v : ByteArray} {l r : Option Addr} {d : Int} {s : Bool} (h : NodeAt nodeT w bw kind p v l r d s) (hs : ∀ a : Addr, a.block = bw -> ¬ Two bw a -> Same a w x)
   (e3 : x.cell? ⟨bw, 3, none⟩ = some (.pointer (ptr bl))) (e4 : x.cell? ⟨bw, 4, none⟩ = some (.pointer (ptr br))) : NodeAt nodeT x bw kind p v (ptr bl) (ptr br) d s:= by
 obtain ⟨fr, h⟩:= h
 have hS:= hs ⟨bw, 0, none⟩ rfl (by simp [Two])
 have h1 : x.shape? bw = some (nodeT, 7):= by
   have:= hS.shape
   simp only [World.shape?, h] at this ⊢
   exact this
 obtain ⟨c1, f1, e⟩ : ∃ c1 f1, x.heap[bw]? = some (.cells c1 nodeT f1):= by
   simp only [World.shape?] at h1
   cases hh : x.heap[bw]? with
   | none => rw [hh] at h1; simp at h1
   | some o =>
     rw [hh] at h1
     cases o <;> simp at h1
     obtain ⟨rfl, h2⟩:= h1
     exact ⟨_, _, rfl⟩
 refine ⟨f1, ?_⟩
 rw [e]
 congr 2
 refine Array.ext_getElem? fun i => ?_
 by_cases i3 : i = 3
 . subst i3
   simpa [World.cell?, e, nodeCells] using e3
 by_cases i4 : i = 4
 . subst i4
   simpa [World.cell?, e, nodeCells] using e4
 have:= (hs ⟨bw, i, none⟩ rfl (by rintro (e | e) <;> (simp at e; first | done | omega))).cell
 simp only [World.cell?, e, h, Option.isSome_none, Bool.false_eq_true, if_false] at this
 rw [this]
 rcases i with _ | _ | _ | _ | _ | _ | _ | i <;> first | rfl | (exact absurd rfl i3) | (exact absurd rfl i4) | simp [nodeCells]
structure Fc (A : Nat -> Prop) (ty : TypeId) (n : Nat) (c : Cfg) (w : World) (t : Tr) (bw : Nat) (lp rp : Option Addr) (c2 : Cfg) (x : World) : Prop where
 ext : ExtX ty (fun _ => False) c w c2 x
 at_ : NodeAt nodeT x bw t.kind t.path t.value lp rp 0 true
 own : ∀ a : Addr, a.block = bw -> c2.own a
 low : 0 <= bw /\ ¬ A bw
 new : w.heap.size <= bw
 thaw : x.frozen? ⟨bw, 5, none⟩ = false
 kids : ∀ p tl tr, t = .branch p tl tr -> ∃ bl br, lp = ptr bl /\ rp = ptr br /\ Sd nodeT (dgw n) (Off A c2 bw) x tl bl /\ Sd nodeT (dgw n) (Off A c2 bw) x tr br
 no : t.kind ≠ 1 -> lp = none /\ rp = none
theorem fc_rely {c c2 : Cfg} {w x y : World} {t : Tr} {bw : Nat} {lp rp : Option Addr} (h : Fc A ty n c w t bw lp rp c2 x) (hr : Rely ty c2 x y) : Fc A ty n c w t bw lp rp c2 y :=
 ⟨h.ext.go hr, h.at_.same fun a e => hr.same a (.inl (h.own a e)), h.own, h.low, h.new, by rw [(hr.same ⟨bw, 5, none⟩ (.inl (h.own _ rfl))).frozen]; exact h.thaw,
   fun p tl tr e => let ⟨bl, br, h1, h2, h3, h4⟩:= h.kids p tl tr e; ⟨bl, br, h1, h2, h3.same fun a ha => hr.same a (ha.1.2 a rfl), h4.same fun a ha => hr.same a (ha.1.2 a rfl)⟩, h.no⟩
theorem fc_ext {c c2 c3 : Cfg} {w x y : World} {t : Tr} {bw : Nat} {lp rp : Option Addr} (h : Fc A ty n c w t bw lp rp c2 x) (E : Ext ty c2 x c3 y) : Fc A ty n c w t bw lp rp c3 y :=
 ⟨h.ext.trans (E.x (X:= fun _ => False)) (fun _ e _ => e), h.at_.same fun a e => E.rely.same a (.inl (h.own a e)), fun a e => E.own a (h.own a e), h.low, h.new, by rw [(E.rely.same ⟨bw, 5, none⟩ (.inl (h.own _ rfl))).frozen]; exact h.thaw,
   fun p tl tr e => let ⟨bl, br, h1, h2, h3, h4⟩:= h.kids p tl tr e; ⟨bl, br, h1, h2, (h3.same fun a ha => E.rely.same a (ha.1.2 a rfl)).mono fun b hb => ⟨⟨hb.1.1, E.rof b hb.1.2⟩, hb.2⟩, (h4.same fun a ha => E.rely.same a (ha.1.2 a rfl)).mono fun b hb => ⟨⟨hb.1.1, E.rof b hb.1.2⟩, hb.2⟩⟩, h.no⟩
theorem node_set {w : World} {b : Nat} {kind : Int} {p v : ByteArray} {l r : Option Addr} {d d' : Int} {s : Bool} (h : NodeAt nodeT w b kind p v l r d s) : NodeAt nodeT (w.setCell ⟨b, 5, none⟩ (.int .i64 d')) b kind p v l r d' s:= by
 obtain ⟨fr, h⟩:= h
 refine ⟨fr, ?_⟩
 simp [World.setCell, Array.getElem?_modify, h, nodeCells]
noncomputable def sealEnd : Code:= match Tryz.f50.body.getD .skip with
 | .seq _ (.seq _ (.seq _ (.seq _ e))) => e
 | _ => .skip
def Fe (A : Nat -> Prop) (ty : TypeId) (n : Nat) (c : Cfg) (w : World) (t : Tr) (bw : Nat) (c2 : Cfg) (x : World) : Prop:= ExtX ty (fun _ => False) c w c2 x /\ Sd nodeT (dgw n) (Rq A c2) x t bw
theorem fe_rely {c c2 : Cfg} {w x y : World} {t : Tr} {bw : Nat} (h : Fe A ty n c w t bw c2 x) (r : Rely ty c2 x y) : Fe A ty n c w t bw c2 y:= ⟨h.1.go r, h.2.same fun a ha => r.same a (ha.2 a rfl)⟩
theorem fc_rq {c c2 : Cfg} {w x : World} {t : Tr} {bw : Nat} {lp rp : Option Addr} (h : Fc A ty n c w t bw lp rp c2 x) : Rq A c2 bw:= ⟨h.low, fun a e => .inl (h.own a e)⟩
theorem fc_kids {c c2 : Cfg} {w x : World} {t : Tr} {bw : Nat} {lp rp : Option Addr} (h : Fc A ty n c w t bw lp rp c2 x) : ∀ p tl tr, t = .branch p tl tr -> ∃ bl br, lp = ptr bl /\ rp = ptr br /\ Sd nodeT (dgw n) (Rq A c2) x tl bl /\ Sd nodeT (dgw n) (Rq A c2) x tr br:= fun p tl tr e =>
 let ⟨bl, br, h1, h2, h3, h4⟩:= h.kids p tl tr e
 ⟨bl, br, h1, h2, h3.mono fun _ h => h.1, h4.mono fun _ h => h.1⟩
theorem fc_end {c c2 : Cfg} {w x : World} {t : Tr} {bw : Nat} {lp rp : Option Addr} (S : Snug c w) (h : Fc A ty n c w t bw lp rp c2 x) : Fe A ty n c w t bw c2 (x.setCell ⟨bw, 5, none⟩ (.int .i64 (t.dig (dgw n)))):= by
 have hW:= (ExtX.write (ty:= ty) (v:= .int .i64 (t.dig (dgw n))) h.ext.snug (h.own ⟨bw, 5, none⟩ rfl) ⟨_, node_cell h.at_ 5⟩).1
 have hN:= node_set (d':= t.dig (dgw n)) h.at_
 refine ⟨h.ext.trans hW (fun a e ha => ?_), ?_⟩
 . subst e
   exact Nat.lt_irrefl _ (Nat.lt_of_lt_of_le (S.low ⟨bw, 5, none⟩ ha) h.new)
 . cases t with
   | empty => exact ⟨fc_rq h, by obtain ⟨rfl, rfl⟩:= h.no (by show (2 : Int) ≠ 1; decide); exact hN⟩
   | leaf p v => exact ⟨fc_rq h, by obtain ⟨rfl, rfl⟩:= h.no (by show (0 : Int) ≠ 1; decide); exact hN⟩
   | branch p tl tr =>
     obtain ⟨bl, br, rfl, rfl, h1, h2⟩:= h.kids p tl tr rfl
     refine ⟨fc_rq h, bl, br, hN, ?_, ?_⟩
     . exact (h1.same fun a ha => hW.same a (ha.1.2 a rfl) fun e => ha.2 (by rw [e])).mono fun _ h => h.1
     . exact (h2.same fun a ha => hW.same a (ha.1.2 a rfl) fun e => ha.2 (by rw [e])).mono fun _ h => h.1
theorem fc_of {c c' c2 : Cfg} {w x y : World} {t : Tr} {bn bw bl br bl' br' : Nat} {p : ByteArray} {tl tr : Tr} (S : Snug c w) (ht : t = .branch p tl tr) (hlow : 0 <= bw /\ ¬ A bw) (h : Fb A ty n c w t bn (ptr bl) (ptr br) bw c' x) (E : ExtX ty (Two bw) c' x c2 y)
   (e3 : y.cell? ⟨bw, 3, none⟩ = some (.pointer (ptr bl'))) (e4 : y.cell? ⟨bw, 4, none⟩ = some (.pointer (ptr br'))) (s1 : Sd nodeT (dgw n) (Off A c2 bw) y tl bl') (s2 : Sd nodeT (dgw n) (Off A c2 bw) y tr br') : Fc A ty n c w t bw (ptr bl') (ptr br') c2 y:= by
 refine ⟨h.ext.x.trans E fun a e ha => ?_, node_two h.box.at_ (fun a e hn => E.same a (.inl (h.box.own a e)) hn) e3 e4, fun a e => E.own a (h.box.own a e), hlow, h.box.new, ?_, fun p' tl' tr' e => ?_, fun hk => ?_⟩
 . have h1:= S.low a ha
   have h2:= h.box.new
   rcases e with rfl | rfl <;> exact Nat.lt_irrefl _ (Nat.lt_of_lt_of_le h1 h2)
 . rw [(E.same ⟨bw, 5, none⟩ (.inl (h.box.own _ rfl)) (by simp [Two])).frozen]; exact h.box.thaw _
 . rw [ht] at e
   cases e
   exact ⟨bl', br', rfl, rfl, s1, s2⟩
 . rw [ht] at hk
   exact absurd rfl hk
set_option maxRecDepth 20000 in
set_option maxHeartbeats 4000000 in
theorem seal_end (hn : n <= 32) (t : Tr) (hW : Wf t) {c c2 : Cfg} {w x : World} {bw : Nat} {lp rp : Option Addr} {b : Frame} {cs : List Frame} {v0 v2 v3 v4 v5 v6 v8 v9 v10 v11 v12 v13 v14 v15 v16 v17 v18 v19 v20 v21 v22 v23 v24 v25 v26 v27 v28 v29 v30 v31 v32 v33 v34 v35 v36 v37 v38 v39 v40 v41 v42 v43 v44 v45 v46 v47 v48 v49 v50 v51 : Value}
   (S : Snug c w) (hG : Fc A ty n c w t bw lp rp c2 x) (K : SealK A ty (dgw n) FinN t c w b cs) :
   ScS ty Tryz.prog FinN .work c2 (G ((base 50).at ⟨#[v0, .int .i64 n, v2, v3, v4, v5, v6, .pointer (some ⟨bw, 0, none⟩), v8, v9, v10, v11, v12, v13, v14, v15, v16, v17, v18, v19, v20, v21, v22, v23, v24, v25, v26, v27, v28, v29, v30, v31, v32, v33, v34, v35, v36, v37, v38, v39, v40, v41, v42, v43, v44, v45, v46, v47, v48, v49, v50, v51], []⟩ [.code sealEnd]) (b :: cs)) x:= by
 simp only [sealEnd, Tryz.f50, Option.getD_some]
 refine goes_run 60 (.inl rfl) rfl hG.ext.snug ?_
 u_c stepG_seq (fc_rely) hG
 u_reg (fc_rely) hG
 u_op (fc_rely) hG
 u_op (fc_rely) hG
 u_op (fc_rely) hG
 refine Goes.stop (fun w₁ h₁ => ?_)
 replace hG:= fc_rely hG h₁
 clear h₁
 refine ScS.enter rfl hG.ext.snug rfl (by rfl) (by k_ne) rfl Tryz.func66 (by rfl) rfl ?_
 walk_nrm
 refine told_sc (n:= n) hG.ext.snug hG.at_ (fc_rq hG) (fc_kids hG) hG.no (fun c3 y E => ?_)
 replace hG:= fc_ext hG E
 clear E
 rw [Frame.finish_at]
 walk_nrm
 refine ScS.enter rfl hG.ext.snug rfl (by rfl) (by k_ne) rfl Tryz.func65 (by rfl) rfl ?_
 walk_nrm
 refine plain_sc (f:= 65) (by simp [fns]) hG.ext.snug (heap_low hG.ext.snug (fc_rq hG)) (by simp [scal]) rfl (node_call n hn t hW) (fun c4 y E => ?_)
 replace hG:= fc_ext hG E
 clear E
 rw [Frame.finish_at]
 walk_nrm
 refine ScS.enter rfl hG.ext.snug rfl (by rfl) (by k_ne) rfl Tryz.func64 (by rfl) rfl ?_
 walk_nrm
 refine plain_sc (f:= 64) (by simp [fns]) hG.ext.snug (heap_low hG.ext.snug (fc_rq hG)) (by simp [scal]) rfl (of_call n hn t hW) (fun c5 y E => ?_)
 replace hG:= fc_ext hG E
 clear E
 rw [Frame.finish_at]
 walk_nrm
 refine goes_run 60 (.inl rfl) rfl hG.ext.snug ?_
 u_op (fc_rely) hG
 u_op (fc_rely) hG
 refine Goes.stop (fun w₁ h₁ => ?_)
 replace hG:= fc_rely hG h₁
 clear h₁
 refine ScS.write (x:= ⟨bw, 5, none⟩) (v:= .int .i64 (t.dig (dgw n))) rfl hG.ext.snug (hG.own _ rfl) rfl (by rfl) (by k_ne) (fun w₁ h₁ => ?_)
 replace hG:= fc_rely hG h₁
 clear h₁
 have hc : w₁.cell? ⟨bw, 5, none⟩ = some (.int .i64 0):= (node_cell hG.at_ 5).trans rfl
 have hf:= hG.thaw
 refine ⟨⟨_, hc⟩, by go_simp, fun e he => by simp [go_sem, hc, hf] at he; exact he, ?_⟩
 have hH:= fc_end S hG
 clear hG hc hf
 walk_nrm
 refine goes_run 60 (.inl rfl) rfl hH.1.snug ?_
 u_c stepG_region_end (fe_rely) hH
 u_c stepG_seq (fe_rely) hH
 u_reg (fe_rely) hH
 u_op (fe_rely) hH
 u_op (fe_rely) hH
 u_c stepG_region_end (fe_rely) hH
 u_c stepG_ret' (fe_rely) hH
 refine Goes.stop (fun w₁ h₁ => ?_)
 replace hH:= fe_rely hH h₁
 clear h₁
 exact ScS.ctl rfl rfl rfl hH.1.snug (fun w₁ => stepG_leave rfl rfl Tryz.func50 (results_tmp (t:= 6) rfl _ _ _) (events_results_tmp (t:= 6) rfl _ _)) (K _ _ bw hH.1 hH.2)
set_option maxRecDepth 20000 in
set_option maxHeartbeats 4000000 in
theorem seal_ok (hn : n <= 32) (forks : Nat) (t : Tr) (hW : Wf t) (hsides : ∀ p tl tr, t = .branch p tl tr -> SidesOk ty FinN n forks tl tr) : SealOk ty FinN n forks t:= by
 intro A c w bn b cs hC S hA hNd K
 have hF : Fa A ty (dgw n) c w c t bn w:= ⟨.refl S, hNd⟩
 rw [enter_at _ Tryz.func50 (by rfl)]
 walk_nrmf Tryz.f50
 show ScS ty Tryz.prog FinN .work c (G _ _) w
 simp only [ptr]
 refine goes_run 60 (.inl rfl) rfl hF.1.snug ?_
 u_c stepG_seq (fa_rely) hF
 u_reg (fa_rely) hF
 u_op (fa_rely) hF
 u_c stepG_region_end (fa_rely) hF
 u_c stepG_seq (fa_rely) hF
 u_c stepG_seq (fa_rely) hF
 u_reg (fa_rely) hF
 u_op (fa_rely) hF
 u_op (fa_rely) hF
 u_op (fa_rely) hF
 refine Goes.stop (fun w₁ h₁ => ?_)
 replace hF:= fa_rely hF h₁
 clear h₁
 obtain ⟨hR, l, r, d, s, hN, hs, hb, hk⟩:= hF.2.node
 refine ScS.read (v:= .bool s) rfl hF.1.snug rfl (by rfl) (by k_ne) (fun w₁ h₁ => ?_) ?_
 . have hc : w₁.cell? ⟨bn, 6, none⟩ = some (.bool s):= (node_cell (hN.same fun a e => h₁.same a (hR.2 a e)) 6).trans rfl
   exact ⟨by go_simp, fun e he => by simp [go_sem, hc] at he; subst he; exact ⟨_, rfl, hR.2 _ rfl⟩⟩
 walk_nrm
 cases s with
 | true =>
   have hsd:= (hs rfl).mono rr_rq
   clear hs hb hk hN
   have hF2 : Fa A ty (dgw n) c w c t bn w₁ /\ Sd nodeT (dgw n) (Rq A c) w₁ t bn:= ⟨hF, hsd⟩
   clear hF hsd
   have rl : ∀ {x y : World}, (Fa A ty (dgw n) c w c t bn x /\ Sd nodeT (dgw n) (Rq A c) x t bn) -> Rely ty c x y -> (Fa A ty (dgw n) c w c t bn y /\ Sd nodeT (dgw n) (Rq A c) y t bn):= fun h r => ⟨fa_rely h.1 r, h.2.same fun a ha => r.same a (ha.2 a rfl)⟩
   refine goes_run 60 (.inl rfl) rfl hF2.1.1.snug ?_
   u_c stepG_region_end rl hF2
   u_cond true rl hF2
   u_c stepG_seq rl hF2
   u_reg rl hF2
   u_op rl hF2
   u_op rl hF2
   u_c stepG_region_end rl hF2
   u_c stepG_ret' rl hF2
   refine Goes.stop (fun w₁ h₁ => ?_)
   replace hF2:= rl hF2 h₁
   clear h₁
   exact ScS.ctl rfl rfl rfl hF2.1.1.snug (fun w₁ => stepG_leave rfl rfl Tryz.func50 (results_tmp (t:= 6) rfl _ _ _) (events_results_tmp (t:= 6) rfl _ _)) (K c _ bn hF2.1.1.x hF2.2)
 | false =>
   refine goes_run 60 (.inl rfl) rfl hF.1.snug ?_
   u_c stepG_region_end (fa_rely) hF
   u_cond false (fa_rely) hF
   u_c stepG_skip (fa_rely) hF
   u_c stepG_seq (fa_rely) hF
   refine Goes.stop (fun w₁ h₁ => ?_)
   replace hF:= fa_rely hF h₁
   clear h₁ hs hb hk hN hR
   obtain ⟨hR, l, r, d, s, hN, -, hb, hk⟩:= hF.2.node
   refine seal_r3 (width:= n) (forks:= forks) (lp:= l) (rp:= r) hF ⟨d, s, hN⟩ rfl rfl rfl rfl rfl ?_
   intro a c' w' bw ts df t0 t1 t2 t7 hF' hN' hB
   obtain ⟨T, ds⟩:= a
   replace df : ds = []:= df
   subst df
   obtain ⟨v0, v1, v2, v3, v4, v5, v6, v7, v8, v9, v10, v11, v12, v13, v14, v15, v16, v17, v18, v19, v20, v21, v22, v23, v24, v25, v26, v27, v28, v29, v30, v31, v32, v33, v34, v35, v36, v37, v38, v39, v40, v41, v42, v43, v44, v45, v46, v47, v48, v49, v50, v51, rfl⟩:= array52 T ts
   simp only [Array.getD_eq_getD_getElem?, List.getElem?_toArray, List.getElem?_cons_succ, List.getElem?_cons_zero, Option.getD_some] at t0 t1 t2 t7
   subst t0 t1 t2 t7
   have hG : Fb A ty n c w t bn l r bw c' w':= by
     refine ⟨hF'.1, (hNd.same fun a ha => hF'.1.rely.same a (ha.2 a rfl)).mono fun x hx => ⟨rr_ext S hF'.1 x hx, fun e => ?_⟩, hN', hB⟩
     have h1:= S.low ⟨x, 0, none⟩ (hx.2 _ rfl)
     have h2:= hB.new
     have h3 : x < w.heap.size:= h1
     omega
   clear hF hF' hB hN hN' hb hk hR
   simp only []
   refine goes_run 60 (.inl rfl) rfl hG.ext.snug ?_
   u_c stepG_seq (fb_rely) hG
   u_c stepG_seq (fb_rely) hG
   u_reg (fb_rely) hG
   u_op (fb_rely) hG
   u_op (fb_rely) hG
   u_op (fb_rely) hG
   refine Goes.stop (fun w₁ h₁ => ?_)
   replace hG:= fb_rely hG h₁
   clear h₁
   refine ScS.read (v:= .int .i64 t.kind) rfl hG.ext.snug rfl (by rfl) (by k_ne) (fun w₁ h₁ => ?_) ?_
   . obtain ⟨d, s, hN⟩:= hG.at_
     have hR : Rr A c' bn:= hG.nd.node.1.1
     have hc : w₁.cell? ⟨bn, 0, none⟩ = some (.int .i64 t.kind):= (node_cell (hN.same fun a e => h₁.same a (hR.2 a e)) 0).trans rfl
     exact ⟨by go_simp, fun e he => by simp [go_sem, hc] at he; subst he; exact ⟨_, rfl, hR.2 _ rfl⟩⟩
   walk_nrm
   by_cases hbr : ∃ p tl tr, t = .branch p tl tr
   . obtain ⟨p, tl, tr, ht⟩:= hbr
     have hk1 : t.kind = 1:= by rw [ht]; rfl
     simp only [hk1]
     refine goes_run 60 (.inl rfl) rfl hG.ext.snug ?_
     u_op (fb_rely) hG
     u_c stepG_region_end (fb_rely) hG
     u_cond true (fb_rely) hG
     u_reg (fb_rely) hG
     u_op (fb_rely) hG
     u_op (fb_rely) hG
     u_op (fb_rely) hG
     refine Goes.stop (fun w₁ h₁ => ?_)
     replace hG:= fb_rely hG h₁
     clear h₁
     refine ScS.read (v:= .slice (some ⟨bw, 3, none⟩) 2 2) rfl hG.ext.snug rfl (by rfl) (by k_ne) (fun w₁ h₁ => ⟨by go_simp, fun e he => by simp [go_sem, hush_sides] at he⟩) ?_
     walk_nrm
     refine goes_run 60 (.inl rfl) rfl hG.ext.snug ?_
     u_op (fb_rely) hG
     u_op (fb_rely) hG
     refine Goes.stop (fun w₁ h₁ => ?_)
     replace hG:= fb_rely hG h₁
     clear h₁
     refine ScS.enter rfl hG.ext.snug rfl (by rfl) (by k_ne) rfl Tryz.func63 (by rfl) rfl ?_
     walk_nrm
     obtain ⟨bl, br, rfl, rfl, h1, h2⟩:= fb_kids hG ht
     have hc:= hG.ext.cfg
     have hC' : Calm c':= by rw [hc]; exact ⟨hC.deaf, hC.cur, hC.pend, hC.kids, hC.ub⟩
     have hlow:= fb_low S hA hNd hG
     refine hsides p tl tr ht A c' _ bw bl br _ _ hC' hG.ext.snug (fun x h => Nat.lt_of_lt_of_le (hA x h) hG.ext.rely.size) hlow.1 (hG.box.own _ rfl) (hG.box.own _ rfl) (hG.box.nrd _ rfl) (hG.box.nrd _ rfl) (node_cell hG.box.at_ 3) (node_cell hG.box.at_ 4) (hG.box.thaw _) (hG.box.thaw _) h1 h2 ?_
     intro c2 x bl' br' E e3 e4 s1 s2
     rw [Frame.finish_at]
     walk_nrm
     have hH:= fc_of S ht hlow hG E e3 e4 s1 s2
     refine goes_run 60 (.inl rfl) rfl hH.ext.snug ?_
     u_c stepG_region_end (fc_rely) hH
     refine Goes.stop (fun w₁ h₁ => ?_)
     replace hH:= fc_rely hH h₁
     clear h₁
     exact seal_end hn t hW S hH K
   . have hk : t.kind ≠ 1:= by
       cases t with
       | empty => show (2 : Int) ≠ 1; decide
       | leaf p v => show (0 : Int) ≠ 1; decide
       | branch p l r => exact absurd ⟨_, _, _, rfl⟩ hbr
     have hk2 : (t.kind == 1) = false:= by simpa using hk
     have hlow:= fb_low S hA hNd hG
     refine goes_run 60 (.inl rfl) rfl hG.ext.snug ?_
     u_op (fb_rely) hG
     u_c stepG_region_end (fb_rely) hG
     u_cond false (fb_rely) hG
     u_c stepG_skip (fb_rely) hG
     refine Goes.stop (fun w₁ h₁ => ?_)
     replace hG:= fb_rely hG h₁
     clear h₁
     refine seal_end hn t hW S (lp:= l) (rp:= r) ⟨hG.ext.x, hG.box.at_, hG.box.own, hlow, hG.box.new, hG.box.thaw _, fun p tl tr e => absurd ⟨_, _, _, e⟩ hbr, fun _ => fb_no hG hk⟩ K
end
end Go.Proofs.YtddcbeeldjjmeaaGreat
