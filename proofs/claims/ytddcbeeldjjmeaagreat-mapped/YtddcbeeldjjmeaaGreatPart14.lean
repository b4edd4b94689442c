/- THE LIBRARY's WaitGroup IN THIS PROGRAM; THE FUNCTIONS. -/
import Derived.Test.YtddcbeeldjjmeaaGreatChecked
import Derived.Test.YtddcbeeldjjmeaaGreatPart8
import Derived.KernelRfl
import Derived.Test.YtddcbeeldjjmeaaGreatPart6
import Derived.Laws.Tables
namespace Go.Proofs.YtddcbeeldjjmeaaGreat
open Go
abbrev link : Go.Conc.Lib.WgLink := { add := 80, done := 82, wait := 83, relMerge := 94, disable := 95, enable := 96, inBubble := 97, associate := 98, fatal := 99, uOr := 100, uAdd := 101, raceRead := 102, uLoad := 103, uStore := 104, disassociate := 105, semrelease := 106, acquire := 107, isAssociated := 108, uCas := 109, raceWrite := 110, semacquire := 111, orU64 := 114, addU64 := 115, loadU64 := 116, storeU64 := 117, casU64 := 118, tWgP := 145, tUP := 147, tAssoc := 149, tWg := 135, tAU := 133, tU64 := 127, tUint := 103, tU32 := 125, tPU32 := 153, tPAU := 163, tPU64 := 165, tNoCopy := 129, tANoCopy := 130, tAlign64 := 131 }
theorem wgLib : Go.Conc.Lib.WgLib Tryz.prog link :=
 ⟨Tryz.func80, Tryz.func82, Tryz.func83, Tryz.func94, Tryz.func95, Tryz.func96, Tryz.func97, Tryz.func98, Tryz.func99, Tryz.func100, Tryz.func101, Tryz.func102, Tryz.func103, Tryz.func104, Tryz.func105, Tryz.func106, Tryz.func107, Tryz.func108, Tryz.func109, Tryz.func110, Tryz.func111, Tryz.func114, Tryz.func115, Tryz.func116, Tryz.func117, Tryz.func118, Tryz.underlying145, Tryz.runUnderlying145, Tryz.sizeOf145, Tryz.isAgg145, Tryz.zeroValue145, Tryz.underlying147, Tryz.runUnderlying147, Tryz.sizeOf147, Tryz.isAgg147, Tryz.zeroValue147, Tryz.underlying149, Tryz.runUnderlying149, Tryz.sizeOf149, Tryz.isAgg149, Tryz.zeroValue149, Tryz.underlying135, Tryz.runUnderlying135, Tryz.sizeOf135, Tryz.isAgg135, Tryz.zeroValue135, Tryz.underlying133, Tryz.runUnderlying133, Tryz.sizeOf133, Tryz.isAgg133, Tryz.zeroValue133, Tryz.underlying127, Tryz.runUnderlying127, Tryz.sizeOf127, Tryz.isAgg127, Tryz.zeroValue127, Tryz.underlying103, Tryz.runUnderlying103, Tryz.sizeOf103, Tryz.isAgg103, Tryz.zeroValue103, Tryz.underlying125, Tryz.runUnderlying125, Tryz.sizeOf125, Tryz.isAgg125, Tryz.zeroValue125, Tryz.underlying153, Tryz.runUnderlying153, Tryz.sizeOf153, Tryz.isAgg153, Tryz.zeroValue153, Tryz.underlying163, Tryz.runUnderlying163, Tryz.sizeOf163, Tryz.isAgg163, Tryz.zeroValue163, Tryz.underlying165, Tryz.runUnderlying165, Tryz.sizeOf165, Tryz.isAgg165, Tryz.zeroValue165, Tryz.underlying0, Tryz.runUnderlying0, Tryz.sizeOf0, Tryz.isAgg0, Tryz.zeroValue0, Tryz.underlying3, Tryz.runUnderlying3, Tryz.sizeOf3, Tryz.isAgg3, Tryz.zeroValue3, Tryz.underlying4, Tryz.runUnderlying4, Tryz.sizeOf4, Tryz.isAgg4, Tryz.zeroValue4, Tryz.underlying9, Tryz.runUnderlying9, Tryz.sizeOf9, Tryz.isAgg9, Tryz.zeroValue9, Tryz.underlying20, Tryz.runUnderlying20, Tryz.sizeOf20, Tryz.isAgg20, Tryz.zeroValue20, Tryz.underlying21, Tryz.runUnderlying21, Tryz.sizeOf21, Tryz.isAgg21, Tryz.zeroValue21, (by kernel_rfl), (by kernel_rfl)⟩
end Go.Proofs.YtddcbeeldjjmeaaGreat
namespace Go.Proofs.YtddcbeeldjjmeaaGreat
open Go Go.Eq
def fns : List Nat := [66, 65, 64, 84, 85, 86, 112]
theorem fns_fit : fns.all (bodyB Tryz.prog fns) = true := by kernel_rfl
theorem zeros_fit : zerosB Tryz.prog = true := by kernel_rfl
theorem globals_size : Tryz.prog.globals.size = 0 := by kernel_rfl
theorem fitting (sealed : Nat -> Prop) : @BodiesOk (envOf fns sealed 0) (@plainRuns (envOf fns sealed 0)) Tryz.prog /\ @FnsOk (envOf fns sealed 0) Tryz.prog /\ @POk (envOf fns sealed 0) Tryz.prog :=
 ⟨(bodies_ok fns_fit).1, (bodies_ok fns_fit).2, zeros_ok zeros_fit (Nat.le_of_eq globals_size)⟩
end Go.Proofs.YtddcbeeldjjmeaaGreat
namespace Go.Proofs.YtddcbeeldjjmeaaGreat
open Go Go.Conc Go.Eq Go.Nest Go.RowKit Go.Conc.Lib Go.ConcR.Gen
open Go.ConcR (DC0)
abbrev nodeT : TypeId := 89
theorem mixed : Tryz.prog.follows .mixedOrders = true := by kernel_rfl
def Rq (A : Nat -> Prop) (c : Cfg) (b : Nat) : Prop := (0 <= b /\ ¬ A b) /\ Rof c b
def Rr (A : Nat -> Prop) (c : Cfg) (b : Nat) : Prop := ((0 <= b /\ ¬ A b) /\ ∀ a : Addr, a.block = b -> c.rd a /\ ¬ c.own a) /\ Rof c b
theorem rr_rq {A : Nat -> Prop} {c : Cfg} : ∀ b, Rr A c b -> Rq A c b := fun _ h => ⟨h.1.1, h.2⟩
theorem rr_ext {A : Nat -> Prop} {ty : TypeId} {c c' : Cfg} {w w' : World} (S : Snug c w) (E : Ext ty c w c' w') : ∀ b, Rr A c b -> Rr A c' b := fun b h =>
 ⟨⟨h.1.1, fun a e => ⟨E.rd a (h.1.2 a e).1, fun ho => (E.own' a ho).elim (h.1.2 a e).2 fun hn => Nat.lt_irrefl _ (Nat.lt_of_lt_of_le (S.low a (.inr (h.1.2 a e).1)) hn)⟩⟩, E.rof b h.2⟩
def Fa (A : Nat -> Prop) (ty : TypeId) (dg : Int -> ByteArray -> ByteArray -> Int -> Int -> Int) (c0 : Cfg) (w0 : World) (c : Cfg) (t : Tr) (bn : Nat) (w : World) : Prop := Ext ty c0 w0 c w /\ Nd nodeT dg (Rr A c) w t bn
section
variable {A : Nat -> Prop} {ty : TypeId} {dg : Int -> ByteArray -> ByteArray -> Int -> Int -> Int} {FinN : Perm -> Perm -> Goroutine -> World -> Prop} {c0 : Cfg} {w0 : World} {c : Cfg}
theorem fa_rely {t : Tr} {bn : Nat} {w w₁ : World} (h : Fa A ty dg c0 w0 c t bn w) (r : Rely ty c w w₁) : Fa A ty dg c0 w0 c t bn w₁ := ⟨h.1.go r, h.2.same fun a ha => r.same a (ha.2 a rfl)⟩
def SealK (A : Nat -> Prop) (ty : TypeId) (dg : Int -> ByteArray -> ByteArray -> Int -> Int -> Int) (FinN : Perm -> Perm -> Goroutine -> World -> Prop) (t : Tr) (c : Cfg) (w : World) (b : Frame) (cs : List Frame) : Prop :=
 ∀ c' w' b', ExtX ty (fun _ => False) c w c' w' -> Sd nodeT dg (Rq A c') w' t b' -> ScS ty Tryz.prog FinN .work c' (G (b.finish (.pointer (ptr b'))) cs) w'
theorem node_cell {w : World} {b : Nat} {kind : Int} {p v : ByteArray} {l r : Option Addr} {d : Int} {s : Bool} (h : NodeAt nodeT w b kind p v l r d s) (i : Nat) : w.cell? ⟨b, i, none⟩ = (nodeCells kind p v l r d s)[i]? := by
 obtain ⟨fr, h⟩ := h
 simp [World.cell?, h]
theorem eval_tmp (a : Act) (t : Nat) : a.eval (.tmp t) = a.tmps.getD t undef := rfl
theorem put_get {a : Act} {d : Nat} {v : Value} (h : d < a.tmps.size) (j : Nat) : (a.put (some d) v).tmps.getD j undef = if j = d then v else a.tmps.getD j undef := by
 simp only [Act.put, Array.getD_eq_getD_getElem?, Array.getElem?_setIfInBounds]
 by_cases e : d = j
 . subst e; simp [h]
 . rw [if_neg e, if_neg (Ne.symm e)]
theorem put_size {a : Act} {d : Option Nat} {v : Value} : (a.put d v).tmps.size = a.tmps.size := by cases d <;> simp [Act.put]
theorem put_defers {a : Act} {d : Option Nat} {v : Value} : (a.put d v).defers = a.defers := by cases d <;> simp [Act.put]
theorem set_get {l : Array Bool} {i : Nat} (h : i < l.size) (j : Nat) : (l.setIfInBounds i true).getD j false = if j = i then true else l.getD j false := by
 simp only [Array.getD_eq_getD_getElem?, Array.getElem?_setIfInBounds]
 by_cases e : i = j
 . subst e; simp [h]
 . rw [if_neg e, if_neg (Ne.symm e)]
def v3 (bn : Nat) (kind : Int) (p v : ByteArray) (l r : Option Addr) : Nat -> Value
 | 0 | 1 | 4 | 5 | 8 | 9 | 12 | 13 => .pointer (some ⟨bn, 0, none⟩)
 | 2 => .pointer (some ⟨bn, 0, none⟩)
 | 3 => .int .i64 kind
 | 6 => .pointer (some ⟨bn, 1, none⟩)
 | 7 => .string p
 | 10 => .pointer (some ⟨bn, 2, none⟩)
 | 11 => .string v
 | 14 => .pointer (some ⟨bn, 3, none⟩)
 | 15 => .agg #[.pointer l, .pointer r]
 | 16 => .agg (nodeCells kind p v l r 0 true)
 | _ => undef
structure Boxed (w0 : World) (t : Tr) (l r : Option Addr) (bw : Nat) (c : Cfg) (w : World) : Prop where
 at_ : NodeAt nodeT w bw t.kind t.path t.value l r 0 true
 own : ∀ a : Addr, a.block = bw -> c.own a
 nrd : ∀ a : Addr, a.block = bw -> ¬ c.rd a
 new : w0.heap.size <= bw
 thaw : ∀ i, w.frozen? ⟨bw, i, none⟩ = false
structure I3 (A : Nat -> Prop) (ty : TypeId) (dg : Int -> ByteArray -> ByteArray -> Int -> Int -> Int) (c0 : Cfg) (w0 : World) (t : Tr) (bn : Nat) (width forks : Int) (lp rp : Option Addr) (l : Array Bool) (a : Act) (c : Cfg) (w : World) : Prop where
 ls : l.size = 19
 ts : a.tmps.size = 52
 df : a.defers = []
 t0 : a.tmps.getD 0 undef = .pointer (some ⟨bn, 0, none⟩)
 t1 : a.tmps.getD 1 undef = .int .i64 width
 t2 : a.tmps.getD 2 undef = .int .i64 forks
 val : ∀ j, j < 17 -> l.getD j false = true -> a.tmps.getD (13 + j) undef = v3 bn t.kind t.path t.value lp rp j
 fa : Fa A ty dg c0 w0 c t bn w
 nd : ∃ d s, NodeAt nodeT w bn t.kind t.path t.value lp rp d s
 box : l.getD 17 false = true -> ∃ bw, Boxed w0 t lp rp bw c w /\ a.tmps.getD 30 undef = .pointer (some ⟨bw, 0, none⟩)
 last : l.getD 18 false = true -> l.getD 17 false = true /\ a.tmps.getD 7 undef = a.tmps.getD 30 undef
theorem I3.put {t : Tr} {bn : Nat} {width forks : Int} {lp rp : Option Addr} {l : Array Bool} {a : Act} {w : World} {i : Nat} (h : I3 A ty dg c0 w0 t bn width forks lp rp l a c w) (hi : i < 17) :
   I3 A ty dg c0 w0 t bn width forks lp rp (l.setIfInBounds i true) (a.put (some (13 + i)) (v3 bn t.kind t.path t.value lp rp i)) c w := by
 have hlt : 13 + i < a.tmps.size := by rw [h.ts]; omega
 have hls : i < l.size := by rw [h.ls]; omega
 refine ⟨by simp [h.ls], by rw [put_size]; exact h.ts, by rw [put_defers]; exact h.df, ?_, ?_, ?_, fun j hj hl => ?_, h.fa, h.nd, fun hl => ?_, fun hl => ?_⟩
 . rw [put_get hlt, if_neg (by omega)]; exact h.t0
 . rw [put_get hlt, if_neg (by omega)]; exact h.t1
 . rw [put_get hlt, if_neg (by omega)]; exact h.t2
 . rw [put_get hlt]
   by_cases e : j = i
   . subst e; rw [if_pos rfl]
   . rw [if_neg (by omega)]
     rw [set_get hls, if_neg e] at hl
     exact h.val j hj hl
 . rw [set_get hls, if_neg (by omega)] at hl
   rw [put_get hlt, if_neg (by omega)]
   exact h.box hl
 . rw [set_get hls, if_neg (by omega)] at hl
   rw [set_get hls, if_neg (by omega), put_get hlt, if_neg (by omega), put_get hlt, if_neg (by omega)]
   exact h.last hl
theorem Fa.draw {t : Tr} {bn : Nat} {w : World} (h : Fa A ty dg c0 w0 c t bn w) : Fa A ty dg c0 w0 c t bn { w with drawn := w.drawn + 1 } :=
 fa_rely h (Rely.at ty c w (w.drawn + 1))
theorem same_drawn {w : World} (a : Addr) : Same a w { w with drawn := w.drawn + 1 } := ⟨rfl, rfl, rfl, fun _ => rfl, rfl⟩
theorem Boxed.draw {t : Tr} {bw : Nat} {l r : Option Addr} {w : World} (h : Boxed w0 t l r bw c w) : Boxed w0 t l r bw c { w with drawn := w.drawn + 1 } :=
 ⟨h.at_, h.own, h.nrd, h.new, h.thaw⟩
theorem Boxed.rely {t : Tr} {bw : Nat} {l r : Option Addr} {w w₁ : World} (h : Boxed w0 t l r bw c w) (hr : Rely ty c w w₁) : Boxed w0 t l r bw c w₁ :=
 ⟨h.at_.same fun a e => hr.same a (.inl (h.own a e)), h.own, h.nrd, h.new, fun i => by rw [(hr.same ⟨bw, i, none⟩ (.inl (h.own _ rfl))).frozen]; exact h.thaw i⟩
theorem I3.draw {t : Tr} {bn : Nat} {width forks : Int} {lp rp : Option Addr} {l : Array Bool} {a : Act} {w : World} (h : I3 A ty dg c0 w0 t bn width forks lp rp l a c w) : I3 A ty dg c0 w0 t bn width forks lp rp l a c { w with drawn := w.drawn + 1 } :=
 ⟨h.ls, h.ts, h.df, h.t0, h.t1, h.t2, h.val, h.fa.draw, h.nd, fun e => let ⟨bw, h1, h2⟩ := h.box e; ⟨bw, h1.draw, h2⟩, h.last⟩
theorem I3.snug {t : Tr} {bn : Nat} {width forks : Int} {lp rp : Option Addr} {l : Array Bool} {a : Act} {w : World} (h : I3 A ty dg c0 w0 t bn width forks lp rp l a c w) : Snug c w := h.fa.1.snug
end
noncomputable def r3ops : Array Oper := match Tryz.f50.body.getD .skip with
 | .seq _ (.seq _ (.seq (.region _ b _) _)) => b
 | _ => #[]
theorem node_built (kind : Int) (p v : ByteArray) (l r : Option Addr) : Tryz.prog.built nodeT [(0, .int .i64 kind), (1, .string p), (2, .string v), (3, .agg #[.pointer l, .pointer r]), (5, .bool true)] = some (nodeCells kind p v l r 0 true) := by kernel_rfl
theorem r3_size : r3ops.size = 19 := rfl
theorem r3_back : backB r3ops = true := by kernel_rfl
section
variable {A : Nat -> Prop} {ty : TypeId} {dg : Int -> ByteArray -> ByteArray -> Int -> Int -> Int} {FinN : Perm -> Perm -> Goroutine -> World -> Prop} {c0 : Cfg} {w0 : World} {c : Cfg}
 {t : Tr} {bn : Nat} {width forks : Int} {lp rp : Option Addr} {l : Array Bool} {a : Act} {w : World} {k : List Item} {cs : List Frame}
set_option maxRecDepth 20000 in
set_option maxHeartbeats 4000000 in
theorem r3_step {i : Nat} (hi : i ∈ Region.ready .any r3ops l) (hI : I3 A ty dg c0 w0 t bn width forks lp rp l a c w) (rest : List Nat)
   (K : ∀ a' c' w', I3 A ty dg c0 w0 t bn width forks lp rp (l.setIfInBounds i true) a' c' w' -> ScS ty Tryz.prog FinN .work c' (G ((base 50).at a' (.inRegion r3ops rest :: k)) cs) w') :
   ScS ty Tryz.prog FinN .work c (G ((base 50).at a (.inRegion r3ops (i :: rest) :: k)) cs) w := by
 obtain ⟨hlt, hfl, o, ho, hd⟩ := ready_spec hi
 rw [r3_size] at hlt
 have hsub := hI.snug
 have hls : i < l.size := by rw [hI.ls]; exact hlt
 obtain ⟨dd, ss, hN⟩ := hI.nd
 have hR := hI.fa.2.node.1
 have hcell : ∀ w₁, Rely ty c w w₁ -> ∀ j, w₁.cell? ⟨bn, j, none⟩ = (nodeCells t.kind t.path t.value lp rp dd ss)[j]? := fun w₁ h₁ j => node_cell (hN.same fun a e => h₁.same a (hR.2 a e)) j
 have hread : ∀ j, Reads c ⟨.cell ⟨bn, j, none⟩, false, false⟩ := fun j => ⟨⟨bn, j, none⟩, rfl, hR.2 _ rfl⟩
 have hcases : i = 0 \/ i = 1 \/ i = 2 \/ i = 3 \/ i = 4 \/ i = 5 \/ i = 6 \/ i = 7 \/ i = 8 \/ i = 9 \/ i = 10 \/ i = 11 \/ i = 12 \/ i = 13 \/ i = 14 \/ i = 15 \/ i = 16 \/ i = 17 \/ i = 18 := by omega
 have ho2 := ho
 unfold r3ops at ho
 simp only [Tryz.f50, Option.getD_some] at ho
 rcases hcases with rfl | rfl | rfl | rfl | rfl | rfl | rfl | rfl | rfl | rfl | rfl | rfl | rfl | rfl | rfl | rfl | rfl | rfl | rfl
 . -- 0
   simp at ho
   subst ho
   have e0 : a.tmps[0]?.getD undef = .pointer (some ⟨bn, 0, none⟩) := by rw [<- Array.getD_eq_getD_getElem?]; exact hI.t0
   refine ScS.read (v := v3 bn t.kind t.path t.value lp rp 0) rfl hsub ho2 (by rfl) (by k_ne) (fun w₁ h₁ => ?_) (K _ _ _ (hI.put (by omega)))
   exact ⟨by go_simp <;> rfl, fun e he => by simp [go_sem, e0] at he⟩
 . -- 1
   simp at ho
   subst ho
   have e0 : a.tmps[13]?.getD undef = v3 bn t.kind t.path t.value lp rp 0 := by rw [<- Array.getD_eq_getD_getElem?]; exact hI.val 0 (by omega) (hd ⟨0, .data⟩ (by simp) rfl)
   simp only [v3] at e0
   refine ScS.read (v := v3 bn t.kind t.path t.value lp rp 1) rfl hsub ho2 (by rfl) (by k_ne) (fun w₁ h₁ => ?_) (K _ _ _ (hI.put (by omega)))
   exact ⟨by go_simp <;> rfl, fun e he => by simp [go_sem, e0] at he⟩
 . -- 2
   simp at ho
   subst ho
   have e1 : a.tmps[14]?.getD undef = v3 bn t.kind t.path t.value lp rp 1 := by rw [<- Array.getD_eq_getD_getElem?]; exact hI.val 1 (by omega) (hd ⟨1, .data⟩ (by simp) rfl)
   simp only [v3] at e1
   refine ScS.read (v := v3 bn t.kind t.path t.value lp rp 2) rfl hsub ho2 (by rfl) (by k_ne) (fun w₁ h₁ => ?_) (K _ _ _ (hI.put (by omega)))
   exact ⟨by go_simp <;> rfl, fun e he => by simp [go_sem, e1] at he⟩
 . -- 3
   simp at ho
   subst ho
   have e2 : a.tmps[15]?.getD undef = v3 bn t.kind t.path t.value lp rp 2 := by rw [<- Array.getD_eq_getD_getElem?]; exact hI.val 2 (by omega) (hd ⟨2, .data⟩ (by simp) rfl)
   simp only [v3] at e2
   refine ScS.read (v := v3 bn t.kind t.path t.value lp rp 3) rfl hsub ho2 (by rfl) (by k_ne) (fun w₁ h₁ => ?_) (K _ _ _ (hI.put (by omega)))
   have hc0 : w₁.cell? ⟨bn, 0, none⟩ = some (.int .i64 t.kind) := hcell w₁ h₁ 0
   clear hcell
   exact ⟨by go_simp <;> rfl, fun e he => by simp [go_sem, e2, hc0] at he; subst he; exact hread 0⟩
 . -- 4
   simp at ho
   subst ho
   have e0 : a.tmps[0]?.getD undef = .pointer (some ⟨bn, 0, none⟩) := by rw [<- Array.getD_eq_getD_getElem?]; exact hI.t0
   refine ScS.read (v := v3 bn t.kind t.path t.value lp rp 4) rfl hsub ho2 (by rfl) (by k_ne) (fun w₁ h₁ => ?_) (K _ _ _ (hI.put (by omega)))
   exact ⟨by go_simp <;> rfl, fun e he => by simp [go_sem, e0] at he⟩
 . -- 5
   simp at ho
   subst ho
   have e4 : a.tmps[17]?.getD undef = v3 bn t.kind t.path t.value lp rp 4 := by rw [<- Array.getD_eq_getD_getElem?]; exact hI.val 4 (by omega) (hd ⟨4, .data⟩ (by simp) rfl)
   simp only [v3] at e4
   refine ScS.read (v := v3 bn t.kind t.path t.value lp rp 5) rfl hsub ho2 (by rfl) (by k_ne) (fun w₁ h₁ => ?_) (K _ _ _ (hI.put (by omega)))
   exact ⟨by go_simp <;> rfl, fun e he => by simp [go_sem, e4] at he⟩
 . -- 6
   simp at ho
   subst ho
   have e5 : a.tmps[18]?.getD undef = v3 bn t.kind t.path t.value lp rp 5 := by rw [<- Array.getD_eq_getD_getElem?]; exact hI.val 5 (by omega) (hd ⟨5, .data⟩ (by simp) rfl)
   simp only [v3] at e5
   refine ScS.read (v := v3 bn t.kind t.path t.value lp rp 6) rfl hsub ho2 (by rfl) (by k_ne) (fun w₁ h₁ => ?_) (K _ _ _ (hI.put (by omega)))
   exact ⟨by go_simp <;> rfl, fun e he => by simp [go_sem, e5] at he⟩
 . -- 7
   simp at ho
   subst ho
   have e6 : a.tmps[19]?.getD undef = v3 bn t.kind t.path t.value lp rp 6 := by rw [<- Array.getD_eq_getD_getElem?]; exact hI.val 6 (by omega) (hd ⟨6, .data⟩ (by simp) rfl)
   simp only [v3] at e6
   refine ScS.read (v := v3 bn t.kind t.path t.value lp rp 7) rfl hsub ho2 (by rfl) (by k_ne) (fun w₁ h₁ => ?_) (K _ _ _ (hI.put (by omega)))
   have hc1 : w₁.cell? ⟨bn, 1, none⟩ = some (.string t.path) := hcell w₁ h₁ 1
   clear hcell
   exact ⟨by go_simp <;> rfl, fun e he => by simp [go_sem, e6, hc1] at he; subst he; exact hread 1⟩
 . -- 8
   simp at ho
   subst ho
   have e0 : a.tmps[0]?.getD undef = .pointer (some ⟨bn, 0, none⟩) := by rw [<- Array.getD_eq_getD_getElem?]; exact hI.t0
   refine ScS.read (v := v3 bn t.kind t.path t.value lp rp 8) rfl hsub ho2 (by rfl) (by k_ne) (fun w₁ h₁ => ?_) (K _ _ _ (hI.put (by omega)))
   exact ⟨by go_simp <;> rfl, fun e he => by simp [go_sem, e0] at he⟩
 . -- 9
   simp at ho
   subst ho
   have e8 : a.tmps[21]?.getD undef = v3 bn t.kind t.path t.value lp rp 8 := by rw [<- Array.getD_eq_getD_getElem?]; exact hI.val 8 (by omega) (hd ⟨8, .data⟩ (by simp) rfl)
   simp only [v3] at e8
   refine ScS.read (v := v3 bn t.kind t.path t.value lp rp 9) rfl hsub ho2 (by rfl) (by k_ne) (fun w₁ h₁ => ?_) (K _ _ _ (hI.put (by omega)))
   exact ⟨by go_simp <;> rfl, fun e he => by simp [go_sem, e8] at he⟩
 . -- 10
   simp at ho
   subst ho
   have e9 : a.tmps[22]?.getD undef = v3 bn t.kind t.path t.value lp rp 9 := by rw [<- Array.getD_eq_getD_getElem?]; exact hI.val 9 (by omega) (hd ⟨9, .data⟩ (by simp) rfl)
   simp only [v3] at e9
   refine ScS.read (v := v3 bn t.kind t.path t.value lp rp 10) rfl hsub ho2 (by rfl) (by k_ne) (fun w₁ h₁ => ?_) (K _ _ _ (hI.put (by omega)))
   exact ⟨by go_simp <;> rfl, fun e he => by simp [go_sem, e9] at he⟩
 . -- 11
   simp at ho
   subst ho
   have e10 : a.tmps[23]?.getD undef = v3 bn t.kind t.path t.value lp rp 10 := by rw [<- Array.getD_eq_getD_getElem?]; exact hI.val 10 (by omega) (hd ⟨10, .data⟩ (by simp) rfl)
   simp only [v3] at e10
   refine ScS.read (v := v3 bn t.kind t.path t.value lp rp 11) rfl hsub ho2 (by rfl) (by k_ne) (fun w₁ h₁ => ?_) (K _ _ _ (hI.put (by omega)))
   have hc2 : w₁.cell? ⟨bn, 2, none⟩ = some (.string t.value) := hcell w₁ h₁ 2
   clear hcell
   exact ⟨by go_simp <;> rfl, fun e he => by simp [go_sem, e10, hc2] at he; subst he; exact hread 2⟩
 . -- 12
   simp at ho
   subst ho
   have e0 : a.tmps[0]?.getD undef = .pointer (some ⟨bn, 0, none⟩) := by rw [<- Array.getD_eq_getD_getElem?]; exact hI.t0
   refine ScS.read (v := v3 bn t.kind t.path t.value lp rp 12) rfl hsub ho2 (by rfl) (by k_ne) (fun w₁ h₁ => ?_) (K _ _ _ (hI.put (by omega)))
   exact ⟨by go_simp <;> rfl, fun e he => by simp [go_sem, e0] at he⟩
 . -- 13
   simp at ho
   subst ho
   have e12 : a.tmps[25]?.getD undef = v3 bn t.kind t.path t.value lp rp 12 := by rw [<- Array.getD_eq_getD_getElem?]; exact hI.val 12 (by omega) (hd ⟨12, .data⟩ (by simp) rfl)
   simp only [v3] at e12
   refine ScS.read (v := v3 bn t.kind t.path t.value lp rp 13) rfl hsub ho2 (by rfl) (by k_ne) (fun w₁ h₁ => ?_) (K _ _ _ (hI.put (by omega)))
   exact ⟨by go_simp <;> rfl, fun e he => by simp [go_sem, e12] at he⟩
 . -- 14
   simp at ho
   subst ho
   have e13 : a.tmps[26]?.getD undef = v3 bn t.kind t.path t.value lp rp 13 := by rw [<- Array.getD_eq_getD_getElem?]; exact hI.val 13 (by omega) (hd ⟨13, .data⟩ (by simp) rfl)
   simp only [v3] at e13
   refine ScS.read (v := v3 bn t.kind t.path t.value lp rp 14) rfl hsub ho2 (by rfl) (by k_ne) (fun w₁ h₁ => ?_) (K _ _ _ (hI.put (by omega)))
   exact ⟨by go_simp <;> rfl, fun e he => by simp [go_sem, e13] at he⟩
 . -- 15
   simp at ho
   subst ho
   have e14 : a.tmps[27]?.getD undef = v3 bn t.kind t.path t.value lp rp 14 := by rw [<- Array.getD_eq_getD_getElem?]; exact hI.val 14 (by omega) (hd ⟨14, .data⟩ (by simp) rfl)
   simp only [v3] at e14
   refine ScS.read (v := v3 bn t.kind t.path t.value lp rp 15) rfl hsub ho2 (by rfl) (by k_ne) (fun w₁ h₁ => ?_) (K _ _ _ (hI.put (by omega)))
   have hc3 : w₁.cell? ⟨bn, 3, none⟩ = some (.pointer lp) := hcell w₁ h₁ 3
   have hc4 : w₁.cell? ⟨bn, 4, none⟩ = some (.pointer rp) := hcell w₁ h₁ 4
   clear hcell
   exact ⟨by go_simp <;> rfl, fun e he => by simp [go_sem, e14, hc3, hc4] at he; rcases he with rfl | rfl; exact hread 3; exact hread 4⟩
 . -- 16
   simp at ho
   subst ho
   have e3 : a.tmps[16]?.getD undef = v3 bn t.kind t.path t.value lp rp 3 := by rw [<- Array.getD_eq_getD_getElem?]; exact hI.val 3 (by omega) (hd ⟨3, .data⟩ (by simp) rfl)
   have e7 : a.tmps[20]?.getD undef = v3 bn t.kind t.path t.value lp rp 7 := by rw [<- Array.getD_eq_getD_getElem?]; exact hI.val 7 (by omega) (hd ⟨7, .data⟩ (by simp) rfl)
   have e11 : a.tmps[24]?.getD undef = v3 bn t.kind t.path t.value lp rp 11 := by rw [<- Array.getD_eq_getD_getElem?]; exact hI.val 11 (by omega) (hd ⟨11, .data⟩ (by simp) rfl)
   have e15 : a.tmps[28]?.getD undef = v3 bn t.kind t.path t.value lp rp 15 := by rw [<- Array.getD_eq_getD_getElem?]; exact hI.val 15 (by omega) (hd ⟨15, .data⟩ (by simp) rfl)
   simp only [v3] at e3 e7 e11 e15
   have hb := node_built t.kind t.path t.value lp rp
   refine ScS.read (v := v3 bn t.kind t.path t.value lp rp 16) rfl hsub ho2 (by rfl) (by k_ne) (fun w₁ h₁ => ?_) (K _ _ _ (hI.put (by omega)))
   exact ⟨by go_simp; rw [run_build _ _ _ _ hb]; rfl, fun e he => by simp [go_sem, e3, e7, e11, e15, Hush.build _ _] at he⟩
 . -- 17
   simp at ho
   subst ho
   have e16 : a.tmps[29]?.getD undef = v3 bn t.kind t.path t.value lp rp 16 := by rw [<- Array.getD_eq_getD_getElem?]; exact hI.val 16 (by omega) (hd ⟨16, .data⟩ (by simp) rfl)
   simp only [v3] at e16
   refine ScS.make (v := fun w₁ => .pointer (some ⟨w₁.heap.size, 0, none⟩)) (ob := fun _ => .cells (nodeCells t.kind t.path t.value lp rp 0 true) nodeT) rfl hsub ho2 (by rfl) (by k_ne) (fun w₁ h₁ => ?_)
   refine ⟨by go_simp <;> rfl, fun e he => by simp [go_sem, e16] at he, fun S2 => K _ _ _ ?_⟩
   have S1 := hsub.rely h₁
   have E := Ext.fresh (ty := ty) S1 S2
   have hF1 := fa_rely hI.fa h₁
   have hls2 : 30 < a.tmps.size := by rw [hI.ts]; omega
   refine ⟨by simp [hI.ls], by rw [put_size]; exact hI.ts, by rw [put_defers]; exact hI.df, ?_, ?_, ?_, fun j hj hl => ?_, ⟨hF1.1.trans E, (hF1.2.same fun x hx => E.rely.same x (hx.2 x rfl)).mono (rr_ext S1 E)⟩, ⟨dd, ss, (hN.same fun x e => (h₁.same x (hR.2 x e))).same fun x e => E.rely.same x (hR.2 x e)⟩, fun _ => ⟨w₁.heap.size, ⟨⟨_, fresh_new⟩, fun x hx => fresh_own hx, fun x hx hr => Nat.lt_irrefl _ (hx ▸ S1.low x (.inr hr)), hF1.1.rely.size, fun j => by simp only [World.frozen?, fresh_new]; simp⟩, ?_⟩, fun hl => ?_⟩
   . rw [put_get hls2, if_neg (by omega)]; exact hI.t0
   . rw [put_get hls2, if_neg (by omega)]; exact hI.t1
   . rw [put_get hls2, if_neg (by omega)]; exact hI.t2
   . rw [put_get hls2, if_neg (by omega)]
     rw [set_get hls, if_neg (by omega)] at hl
     exact hI.val j hj hl
   . rw [put_get hls2, if_pos rfl]
   . rw [set_get hls, if_neg (by omega)] at hl
     exact absurd (hI.last hl).1 (by rw [Array.getD_eq_getD_getElem?] at hfl ⊢; rw [Array.getElem?_eq_getElem hls] at hfl ⊢; simp at hfl ⊢; exact hfl)
 . -- 18
   simp at ho
   subst ho
   have e17 : l.getD 17 false = true := hd ⟨17, .data⟩ (by simp) rfl
   have hls2 : 7 < a.tmps.size := by rw [hI.ts]; omega
   refine ScS.read (v := a.tmps.getD 30 undef) rfl hsub ho2 (by rfl) (by k_ne) (fun w₁ h₁ => ⟨by go_simp, fun e he => by simp [go_sem] at he⟩) (K _ _ _ ?_)
   refine ⟨by simp [hI.ls], by rw [put_size]; exact hI.ts, by rw [put_defers]; exact hI.df, ?_, ?_, ?_, fun j hj hl => ?_, hI.fa, hI.nd, fun _ => ?_, fun _ => ?_⟩
   . rw [put_get hls2, if_neg (by omega)]; exact hI.t0
   . rw [put_get hls2, if_neg (by omega)]; exact hI.t1
   . rw [put_get hls2, if_neg (by omega)]; exact hI.t2
   . rw [put_get hls2, if_neg (by omega)]
     rw [set_get hls, if_neg (by omega)] at hl
     exact hI.val j hj hl
   . rw [put_get hls2, if_neg (by omega)]; exact hI.box e17
   . rw [set_get hls, if_neg (by omega), put_get hls2, if_pos rfl, put_get hls2, if_neg (by omega)]
     exact ⟨e17, rfl⟩
theorem seal_r3 (hF : Fa A ty dg c0 w0 c t bn w) (hN : ∃ d s, NodeAt nodeT w bn t.kind t.path t.value lp rp d s) (ts : a.tmps.size = 52) (df : a.defers = []) (t0 : a.tmps.getD 0 undef = .pointer (some ⟨bn, 0, none⟩)) (t1 : a.tmps.getD 1 undef = .int .i64 width) (t2 : a.tmps.getD 2 undef = .int .i64 forks)
   (K : ∀ a' c' w' bw, a'.tmps.size = 52 -> a'.defers = [] -> a'.tmps.getD 0 undef = .pointer (some ⟨bn, 0, none⟩) -> a'.tmps.getD 1 undef = .int .i64 width -> a'.tmps.getD 2 undef = .int .i64 forks -> a'.tmps.getD 7 undef = .pointer (some ⟨bw, 0, none⟩) -> Fa A ty dg c0 w0 c' t bn w' -> (∃ d s, NodeAt nodeT w' bn t.kind t.path t.value lp rp d s) -> Boxed w0 t lp rp bw c' w' ->
     ScS ty Tryz.prog FinN .work c' (G ((base 50).at a' k) cs) w') :
   ScS ty Tryz.prog FinN .work c (G ((base 50).at a (.code (.region 3 r3ops true) :: k)) cs) w := by
 obtain ⟨d, s, hN⟩ := hN
 refine ScS.drawn (I := I3 A ty dg c0 w0 t bn width forks lp rp) rfl mixed hF.1.snug (fun w₁ h₁ => ?_) (fun l a c w h => h.draw) (fun l a c w h0 hI => ?_) (fun l a c w h => h.snug) (fun l a c w i hi hI rest K' => r3_step hi hI rest K')
 . exact ⟨by rw [Array.size_replicate, r3_size], ts, df, t0, t1, t2, fun j _ hl => (by rw [rep_getD] at hl; cases hl), fa_rely hF h₁, ⟨d, s, hN.same fun x e => h₁.same x (hF.2.node.1.2 x e)⟩, fun hl => (by rw [rep_getD] at hl; cases hl), fun hl => (by rw [rep_getD] at hl; cases hl)⟩
 . -- all have come up
   have hall : ∀ j, j < 19 -> l.getD j false = true := fun j hj => all_up (hI.ls.trans r3_size.symm) r3_back h0 j (by rw [r3_size]; exact hj)
   obtain ⟨bw, hB, h30⟩ := hI.box (hall 17 (by omega))
   exact K a c w bw hI.ts hI.df hI.t0 hI.t1 hI.t2 ((hI.last (hall 18 (by omega))).2.trans h30) hI.fa hI.nd hB
end
end Go.Proofs.YtddcbeeldjjmeaaGreat
