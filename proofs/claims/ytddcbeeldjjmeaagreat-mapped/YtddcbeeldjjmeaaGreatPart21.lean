/- SEALING A TREE: a side is sealed and put in its place. -/
import Derived.Test.YtddcbeeldjjmeaaGreatPart20
namespace Go.Proofs.YtddcbeeldjjmeaaGreat
open Go Go.Conc Go.Eq Go.Nest Go.RowKit Go.Conc.Lib Go.ConcR.Gen
open Go.ConcR (DC0)
open Go.ConcN (WgLive)
def Bx (c : Cfg) (w : World) (q : Nat) (v : Value) : Prop:= (c.own ⟨q, 0, none⟩ \/ c.rd ⟨q, 0, none⟩) /\ w.cell? ⟨q, 0, none⟩ = some v
theorem getD_ft {l : Array Bool} {j : Nat} (h : l.getD j true = false) : l.getD j false = false:= by
 rw [Array.getD_eq_getD_getElem?] at h ⊢
 cases e : l[j]? with
 | none => rfl
 | some b => rw [e] at h; exact h
@[go_sem] theorem events_store_ptr (P : Program) (w : World) (es : Array Event) (a : Addr) (m : Mode) (b : Option Addr) : (store a (.pointer b) m).events P w es = storedEv P w es a (.pointer b) m:= events_store P w es a _ m rfl
theorem rr_extx {A : Nat -> Prop} {ty : TypeId} {X : Addr -> Prop} {c c' : Cfg} {w w' : World} (S : Snug c w) (E : ExtX ty X c w c' w') : ∀ b, Rr A c b -> Rr A c' b:= fun b h =>
 ⟨⟨h.1.1, fun a e => ⟨E.rd a (h.1.2 a e).1, fun ho => (E.own' a ho).elim (h.1.2 a e).2 fun hn => Nat.lt_irrefl _ (Nat.lt_of_lt_of_le (S.low a (.inr (h.1.2 a e).1)) hn)⟩⟩, E.rof b h.2⟩
theorem frozen_set (w : World) (x y : Addr) (v : Value) : (w.setCell x v).frozen? y = w.frozen? y:= by
 simp only [World.frozen?, World.setCell, Array.getElem?_modify]
 by_cases e : x.block = y.block
 . rw [if_pos e, <- e]
   cases w.heap[x.block]? with
   | none => rfl
   | some o => cases o <;> simp <;> split <;> simp_all
 . rw [if_neg e]
structure Giv (A : Nat -> Prop) (n : Nat) (c0 : Cfg) (w0 : World) (bw i : Nat) (t : Tr) (bs : Nat) : Prop where
 calm : Calm c0
 snug : Snug c0 w0
 hA : ∀ x, A x -> x < w0.heap.size
 own : c0.own ⟨bw, 3 + i, none⟩
 cell : w0.cell? ⟨bw, 3 + i, none⟩ = some (.pointer (ptr bs))
 thaw : w0.frozen? ⟨bw, 3 + i, none⟩ = false
 nd : Nd nodeT (dgw n) (Ofr A c0 bw) w0 t bs
 i2 : i = 0 \/ i = 1
structure It (A : Nat -> Prop) (ty : TypeId) (n : Nat) (c0 : Cfg) (w0 : World) (bw i : Nat) (t : Tr) (bs : Nat) (a0 : Act) (N lo jd jc js : Nat) (vv : Nat -> Value) (l : Array Bool) (a : Act) (c : Cfg) (w : World) : Prop where
 ls : l.size = N
 ts : a.tmps.size = a0.tmps.size
 df : a.defers = a0.defers
 fx : ∀ j, j < lo -> a.tmps.getD j undef = a0.tmps.getD j undef
 val : ∀ j, j < js -> j ≠ jc -> l.getD j false = true -> a.tmps.getD (lo + j) undef = vv j
 up1 : l.getD js false = true -> l.getD jc false = true
 up2 : l.getD jc false = true -> l.getD jd false = true
 ext : ExtX ty (· = ⟨bw, 3 + i, none⟩) c0 w0 c w
 thaw : w.frozen? ⟨bw, 3 + i, none⟩ = false
 old : l.getD js false = false -> w.cell? ⟨bw, 3 + i, none⟩ = some (.pointer (ptr bs))
 snd : l.getD jc false = true -> ∃ b', a.tmps.getD (lo + jc) undef = .pointer (ptr b') /\ Sd nodeT (dgw n) (Off A c bw) w t b' /\ (l.getD js false = true -> w.cell? ⟨bw, 3 + i, none⟩ = some (.pointer (ptr b')))
section
variable {A : Nat -> Prop} {ty : TypeId} {FinN : Perm -> Perm -> Goroutine -> World -> Prop} {n : Nat} {c0 : Cfg} {w0 : World} {bw i : Nat} {t : Tr} {bs : Nat} {a0 : Act} {N lo jd jc js : Nat} {vv : Nat -> Value} {l : Array Bool} {a : Act} {c : Cfg} {w : World}
theorem It.put (h : It A ty n c0 w0 bw i t bs a0 N lo jd jc js vv l a c w) {j : Nat} {v : Value} (hj : j < N) (hlo : lo + j < a0.tmps.size) (h1 : j ≠ jc) (h2 : j ≠ js) (hv : v = vv j) : It A ty n c0 w0 bw i t bs a0 N lo jd jc js vv (l.setIfInBounds j true) (a.put (some (lo + j)) v) c w:= by
 subst hv
 have hlt : lo + j < a.tmps.size:= by rw [h.ts]; exact hlo
 have hls : j < l.size:= by rw [h.ls]; exact hj
 have g : ∀ k, k ≠ j -> (l.setIfInBounds j true).getD k false = l.getD k false:= fun k hk => by rw [set_get hls, if_neg hk]
 refine ⟨by simp [h.ls], by rw [put_size]; exact h.ts, by rw [put_defers]; exact h.df, fun k hk => ?_, fun k hk hc hl => ?_, fun hl => ?_, fun hl => ?_, h.ext, h.thaw, fun hl => h.old (by rw [<- g js (Ne.symm h2)]; exact hl), fun hl => ?_⟩
 . rw [put_get hlt, if_neg (by omega)]; exact h.fx k hk
 . rw [put_get hlt]
   by_cases e : k = j
   . subst e; rw [if_pos rfl]
   . rw [if_neg (by omega)]
     rw [g k e] at hl
     exact h.val k hk hc hl
 . rw [g js (Ne.symm h2)] at hl
   rw [g jc (Ne.symm h1)]
   exact h.up1 hl
 . rw [g jc (Ne.symm h1)] at hl
   by_cases e : jd = j
   . rw [e, set_get hls, if_pos rfl]
   . rw [g jd e]; exact h.up2 hl
 . rw [g jc (Ne.symm h1)] at hl
   obtain ⟨b', e1, e2, e3⟩:= h.snd hl
   refine ⟨b', ?_, e2, fun hl2 => e3 (by rw [<- g js (Ne.symm h2)]; exact hl2)⟩
   rw [put_get hlt, if_neg (by omega)]; exact e1
theorem It.draw (h : It A ty n c0 w0 bw i t bs a0 N lo jd jc js vv l a c w) : It A ty n c0 w0 bw i t bs a0 N lo jd jc js vv l a c { w with drawn:= w.drawn + 1 } :=
 ⟨h.ls, h.ts, h.df, h.fx, h.val, h.up1, h.up2, h.ext.go (Rely.at ty c w (w.drawn + 1)), h.thaw, h.old, fun e => let ⟨b', h1, h2, h3⟩:= h.snd e; ⟨b', h1, h2.same fun x _ => same_drawn x, h3⟩⟩
theorem It.rely (h : It A ty n c0 w0 bw i t bs a0 N lo jd jc js vv l a c w) (G : Giv A n c0 w0 bw i t bs) {w₁ : World} (hr : Rely ty c w w₁) : It A ty n c0 w0 bw i t bs a0 N lo jd jc js vv l a c w₁ :=
 have e:= hr.same ⟨bw, 3 + i, none⟩ (.inl (h.ext.own _ G.own))
 ⟨h.ls, h.ts, h.df, h.fx, h.val, h.up1, h.up2, h.ext.go hr, e.frozen.trans h.thaw, fun hl => e.cell.trans (h.old hl), fun hl => let ⟨b', h1, h2, h3⟩:= h.snd hl; ⟨b', h1, h2.same fun x hx => hr.same x (hx.1.2 x rfl), fun hl2 => e.cell.trans (h3 hl2)⟩⟩
theorem It.box (h : It A ty n c0 w0 bw i t bs a0 N lo jd jc js vv l a c w) {q : Nat} {v : Value} (hB : Bx c0 w0 q v) (hq : q ≠ bw) {w₁ : World} (hr : Rely ty c w w₁) : Bx c w₁ q v :=
 ⟨hB.1.imp (h.ext.own _) (h.ext.rd _), (((h.ext.go hr).same ⟨q, 0, none⟩ hB.1 (fun e => hq (congrArg Addr.block e))).cell).trans hB.2⟩
theorem It.nd (h : It A ty n c0 w0 bw i t bs a0 N lo jd jc js vv l a c w) (G : Giv A n c0 w0 bw i t bs) : Nd nodeT (dgw n) (Rr (fun y => A y \/ y = bw) c) w t bs :=
 (G.nd.same fun x hx => h.ext.same x (hx.1.2 x rfl) (by intro e; exact hx.2 (by rw [e]))).mono fun b hb =>
   let r:= rr_extx G.snug h.ext b hb.1
   ⟨⟨⟨r.1.1.1, fun e => e.elim r.1.1.2 hb.2⟩, r.1.2⟩, r.2⟩
theorem It.call (h : It A ty n c0 w0 bw i t bs a0 N lo jd jc js vv l a c w) (G : Giv A n c0 w0 bw i t bs) (hj : jc < N) (hlo : lo + jc < a0.tmps.size) (hjd : jd ≠ jc) (hjs : js ≠ jc) (hd : l.getD jd false = true) (hs : l.getD js false = false)
   {c' : Cfg} {w' : World} {b' : Nat} (E : ExtX ty (fun _ => False) c w c' w') (hS : Sd nodeT (dgw n) (Rq (fun y => A y \/ y = bw) c') w' t b') :
   It A ty n c0 w0 bw i t bs a0 N lo jd jc js vv (l.setIfInBounds jc true) (a.put (some (lo + jc)) (.pointer (ptr b'))) c' w':= by
 have hlt : lo + jc < a.tmps.size:= by rw [h.ts]; exact hlo
 have hls : jc < l.size:= by rw [h.ls]; exact hj
 have g : ∀ k, k ≠ jc -> (l.setIfInBounds jc true).getD k false = l.getD k false:= fun k hk => by rw [set_get hls, if_neg hk]
 have e:= E.same ⟨bw, 3 + i, none⟩ (.inl (h.ext.own _ G.own)) (fun x => x)
 refine ⟨by simp [h.ls], by rw [put_size]; exact h.ts, by rw [put_defers]; exact h.df, fun k hk => ?_, fun k hk hc hl => ?_, fun hl => ?_, fun hl => ?_, h.ext.trans E (fun _ e => e.elim), e.frozen.trans h.thaw, fun hl => e.cell.trans (h.old (by rw [<- g js hjs]; exact hl)), fun hl => ?_⟩
 . rw [put_get hlt, if_neg (by omega)]; exact h.fx k hk
 . rw [put_get hlt, if_neg (by omega)]
   rw [g k hc] at hl
   exact h.val k hk hc hl
 . rw [set_get hls, if_pos rfl]
 . rw [g jd hjd]; exact hd
 . refine ⟨b', by rw [put_get hlt, if_pos rfl], hS.mono fun b hb => ⟨⟨⟨hb.1.1, fun e => hb.1.2 (.inl e)⟩, hb.2⟩, fun e => hb.1.2 (.inr e)⟩, fun hl2 => ?_⟩
   rw [g js hjs, hs] at hl2
   cases hl2
theorem It.store (h : It A ty n c0 w0 bw i t bs a0 N lo jd jc js vv l a c w) (G : Giv A n c0 w0 bw i t bs) (hj : js < N) (hjs : js ≠ jc) (hjd : js ≠ jd) (hc : l.getD jc false = true) {b' : Nat} (hb : a.tmps.getD (lo + jc) undef = .pointer (ptr b')) (hS : Sd nodeT (dgw n) (Off A c bw) w t b') (hold : ∃ u, w.cell? ⟨bw, 3 + i, none⟩ = some u) :
   It A ty n c0 w0 bw i t bs a0 N lo jd jc js vv (l.setIfInBounds js true) a c (w.setCell ⟨bw, 3 + i, none⟩ (.pointer (ptr b'))):= by
 have hls : js < l.size:= by rw [h.ls]; exact hj
 have g : ∀ k, k ≠ js -> (l.setIfInBounds js true).getD k false = l.getD k false:= fun k hk => by rw [set_get hls, if_neg hk]
 have W:= ExtX.write (ty:= ty) (v:= .pointer (ptr b')) h.ext.snug (h.ext.own _ G.own) hold
 refine ⟨by simp [h.ls], h.ts, h.df, h.fx, fun k hk hc hl => h.val k hk hc (by rw [<- g k (by omega)]; exact hl), fun _ => by rw [g jc (Ne.symm hjs)]; exact hc, fun hl => by rw [g jd (Ne.symm hjd)]; exact h.up2 hc, h.ext.trans W.1 (fun _ e _ => e), (frozen_set _ _ _ _).trans h.thaw, fun hl => ?_, fun _ => ⟨b', hb, hS.same fun x hx => W.1.same x (hx.1.2 x rfl) (by intro e; exact hx.2 (by rw [e])), fun _ => W.2⟩⟩
 rw [set_get hls, if_pos rfl] at hl
 cases hl
end
theorem It.store_thaw {A : Nat -> Prop} {ty : TypeId} {n : Nat} {c0 : Cfg} {w0 : World} {bw i : Nat} {t : Tr} {bs : Nat} {a0 : Act} {N lo jd jc js : Nat} {vv : Nat -> Value} {l : Array Bool} {a : Act} {c : Cfg} {w : World} (h : It A ty n c0 w0 bw i t bs a0 N lo jd jc js vv l a c w) (G : Giv A n c0 w0 bw i t bs) {w₁ : World} (hr : Rely ty c w w₁) : w₁.frozen? ⟨bw, 3 + i, none⟩ = false:= by
 rw [(hr.same ⟨bw, 3 + i, none⟩ (.inl (h.ext.own _ G.own))).frozen]
 exact h.thaw
noncomputable def kidops : Array Oper:= match Tryz.f81.body.getD .skip with
 | .seq _ (.region _ b _) => b
 | _ => #[]
theorem kid_size : kidops.size = 12:= rfl
theorem kid_back : backB kidops = true:= by kernel_rfl
def kidv (bw i bs n forks : Nat) : Nat -> Value
 | 0 => .slice (some ⟨bw, 3, none⟩) 2 2
 | 1 => .int .i64 i
 | 2 => .slice (some ⟨bw, 3, none⟩) 2 2
 | 3 => .int .i64 i
 | 4 => .pointer (some ⟨bw, 3 + i, none⟩)
 | 5 => .pointer (ptr bs)
 | 6 => .int .i64 n
 | 7 => .int .i64 ((forks + 1 : Nat) : Int)
 | 8 => .int .i64 forks
 | 10 => .pointer (some ⟨bw, 3 + i, none⟩)
 | _ => undef
section
variable {A : Nat -> Prop} {ty : TypeId} {FinN : Perm -> Perm -> Goroutine -> World -> Prop} {n : Nat} {c0 : Cfg} {w0 : World} {bw i : Nat} {t : Tr} {bs : Nat} {a0 : Act} {l : Array Bool} {a : Act} {c : Cfg} {w : World} {k : List Item} {cs : List Frame} {forks q1 q2 q3 q4 : Nat}
abbrev Itkid (A : Nat -> Prop) (ty : TypeId) (n : Nat) (c0 : Cfg) (w0 : World) (bw i : Nat) (t : Tr) (bs : Nat) (a0 : Act) (forks : Nat):= It A ty n c0 w0 bw i t bs a0 12 5 5 9 11 (kidv bw i bs n forks)
set_option maxRecDepth 20000 in
set_option maxHeartbeats 8000000 in
theorem kid_step (hseal : SealOk ty FinN n forks t) (G0 : Giv A n c0 w0 bw i t bs) (hT : a0.tmps.size = 16) (f1 : a0.tmps.getD 1 undef = .pointer (some ⟨q1, 0, none⟩)) (f2 : a0.tmps.getD 2 undef = .pointer (some ⟨q2, 0, none⟩)) (f3 : a0.tmps.getD 3 undef = .pointer (some ⟨q3, 0, none⟩)) (f4 : a0.tmps.getD 4 undef = .pointer (some ⟨q4, 0, none⟩)) (hq1 : Bx c0 w0 q1 (.slice (some ⟨bw, 3, none⟩) 2 2)) (nq1 : q1 ≠ bw) (hq2 : Bx c0 w0 q2 (.int .i64 i)) (nq2 : q2 ≠ bw) (hq3 : Bx c0 w0 q3 (.int .i64 n)) (nq3 : q3 ≠ bw) (hq4 : Bx c0 w0 q4 (.int .i64 ((forks + 1 : Nat) : Int))) (nq4 : q4 ≠ bw) (hforks : forks = 0 \/ forks = 1 \/ forks = 2) {j : Nat} (hi : j ∈ Region.ready .any kidops l) (hI : Itkid A ty n c0 w0 bw i t bs a0 forks l a c w) (rest : List Nat)
   (K : ∀ a' c' w', Itkid A ty n c0 w0 bw i t bs a0 forks (l.setIfInBounds j true) a' c' w' -> ScS ty Tryz.prog FinN .work c' (G ((baseD 81).at a' (.inRegion kidops rest :: k)) cs) w') :
   ScS ty Tryz.prog FinN .work c (G ((baseD 81).at a (.inRegion kidops (j :: rest) :: k)) cs) w:= by
 obtain ⟨hlt, hfl0, o, ho, hd⟩:= ready_spec hi
 have hfl:= getD_ft hfl0
 rw [kid_size] at hlt
 have hsub:= hI.ext.snug
 have hcases : j = 0 \/ j = 1 \/ j = 2 \/ j = 3 \/ j = 4 \/ j = 5 \/ j = 6 \/ j = 7 \/ j = 8 \/ j = 9 \/ j = 10 \/ j = 11:= by omega
 have ho2:= ho
 unfold kidops at ho
 simp only [Tryz.f81, Option.getD_some] at ho
 rcases hcases with rfl | rfl | rfl | rfl | rfl | rfl | rfl | rfl | rfl | rfl | rfl | rfl
 . -- 0
   simp at ho
   subst ho
   have x1 : a.tmps[1]?.getD undef = .pointer (some ⟨q1, 0, none⟩):= by rw [<- Array.getD_eq_getD_getElem?]; exact (hI.fx 1 (by omega)).trans f1
   refine ScS.read (v:= .slice (some ⟨bw, 3, none⟩) 2 2) rfl hsub ho2 (by rfl) (by k_ne) (fun w₁ h₁ => ?_) (K _ _ _ (hI.put (by omega) (by omega) (by omega) (by omega) rfl))
   have hB:= hI.box hq1 nq1 h₁
   have hc:= hB.2
   exact ⟨by go_simp <;> rfl, fun e he => by simp [go_sem, x1, hc] at he; subst he; exact ⟨_, rfl, hB.1⟩⟩
 . -- 1
   simp at ho
   subst ho
   have x2 : a.tmps[2]?.getD undef = .pointer (some ⟨q2, 0, none⟩):= by rw [<- Array.getD_eq_getD_getElem?]; exact (hI.fx 2 (by omega)).trans f2
   refine ScS.read (v:= .int .i64 i) rfl hsub ho2 (by rfl) (by k_ne) (fun w₁ h₁ => ?_) (K _ _ _ (hI.put (by omega) (by omega) (by omega) (by omega) rfl))
   have hB:= hI.box hq2 nq2 h₁
   have hc:= hB.2
   exact ⟨by go_simp <;> rfl, fun e he => by simp [go_sem, x2, hc] at he; subst he; exact ⟨_, rfl, hB.1⟩⟩
 . -- 2
   simp at ho
   subst ho
   have x1 : a.tmps[1]?.getD undef = .pointer (some ⟨q1, 0, none⟩):= by rw [<- Array.getD_eq_getD_getElem?]; exact (hI.fx 1 (by omega)).trans f1
   refine ScS.read (v:= .slice (some ⟨bw, 3, none⟩) 2 2) rfl hsub ho2 (by rfl) (by k_ne) (fun w₁ h₁ => ?_) (K _ _ _ (hI.put (by omega) (by omega) (by omega) (by omega) rfl))
   have hB:= hI.box hq1 nq1 h₁
   have hc:= hB.2
   exact ⟨by go_simp <;> rfl, fun e he => by simp [go_sem, x1, hc] at he; subst he; exact ⟨_, rfl, hB.1⟩⟩
 . -- 3
   simp at ho
   subst ho
   have x2 : a.tmps[2]?.getD undef = .pointer (some ⟨q2, 0, none⟩):= by rw [<- Array.getD_eq_getD_getElem?]; exact (hI.fx 2 (by omega)).trans f2
   refine ScS.read (v:= .int .i64 i) rfl hsub ho2 (by rfl) (by k_ne) (fun w₁ h₁ => ?_) (K _ _ _ (hI.put (by omega) (by omega) (by omega) (by omega) rfl))
   have hB:= hI.box hq2 nq2 h₁
   have hc:= hB.2
   exact ⟨by go_simp <;> rfl, fun e he => by simp [go_sem, x2, hc] at he; subst he; exact ⟨_, rfl, hB.1⟩⟩
 . -- 4
   simp at ho
   subst ho
   have e2 : a.tmps[7]?.getD undef = kidv bw i bs n forks 2:= by rw [<- Array.getD_eq_getD_getElem?]; exact hI.val 2 (by omega) (by omega) (hd ⟨2, .data⟩ (by simp) rfl)
   have e3 : a.tmps[8]?.getD undef = kidv bw i bs n forks 3:= by rw [<- Array.getD_eq_getD_getElem?]; exact hI.val 3 (by omega) (by omega) (hd ⟨3, .data⟩ (by simp) rfl)
   simp only [kidv] at e2 e3
   refine ScS.read (v:= kidv bw i bs n forks 4) rfl hsub ho2 (by rfl) (by k_ne) (fun w₁ h₁ => ?_) (K _ _ _ (hI.put (by omega) (by omega) (by omega) (by omega) rfl))
   exact ⟨by rcases G0.i2 with rfl | rfl <;> (go_simp <;> rfl), fun e he => by rcases G0.i2 with rfl | rfl <;> (simp [go_sem, e2, e3] at he)⟩
 . -- 5
   simp at ho
   subst ho
   have e4 : a.tmps[9]?.getD undef = kidv bw i bs n forks 4:= by rw [<- Array.getD_eq_getD_getElem?]; exact hI.val 4 (by omega) (by omega) (hd ⟨4, .data⟩ (by simp) rfl)
   simp only [kidv] at e4
   have hno : l.getD 11 false = false:= by
     cases hx : l.getD 11 false with
     | false => rfl
     | true => exact absurd (hI.up2 (hI.up1 hx)) (by rw [hfl]; decide)
   refine ScS.read (v:= .pointer (ptr bs)) rfl hsub ho2 (by rfl) (by k_ne) (fun w₁ h₁ => ?_) (K _ _ _ (hI.put (by omega) (by omega) (by omega) (by omega) rfl))
   have hc:= (hI.rely G0 h₁).old hno
   exact ⟨by go_simp <;> rfl, fun e he => by simp [go_sem, e4, hc] at he; subst he; exact ⟨_, rfl, .inl (hI.ext.own _ G0.own)⟩⟩
 . -- 6
   simp at ho
   subst ho
   have x3 : a.tmps[3]?.getD undef = .pointer (some ⟨q3, 0, none⟩):= by rw [<- Array.getD_eq_getD_getElem?]; exact (hI.fx 3 (by omega)).trans f3
   refine ScS.read (v:= .int .i64 n) rfl hsub ho2 (by rfl) (by k_ne) (fun w₁ h₁ => ?_) (K _ _ _ (hI.put (by omega) (by omega) (by omega) (by omega) rfl))
   have hB:= hI.box hq3 nq3 h₁
   have hc:= hB.2
   exact ⟨by go_simp <;> rfl, fun e he => by simp [go_sem, x3, hc] at he; subst he; exact ⟨_, rfl, hB.1⟩⟩
 . -- 7
   simp at ho
   subst ho
   have x4 : a.tmps[4]?.getD undef = .pointer (some ⟨q4, 0, none⟩):= by rw [<- Array.getD_eq_getD_getElem?]; exact (hI.fx 4 (by omega)).trans f4
   refine ScS.read (v:= .int .i64 ((forks + 1 : Nat) : Int)) rfl hsub ho2 (by rfl) (by k_ne) (fun w₁ h₁ => ?_) (K _ _ _ (hI.put (by omega) (by omega) (by omega) (by omega) rfl))
   have hB:= hI.box hq4 nq4 h₁
   have hc:= hB.2
   exact ⟨by go_simp <;> rfl, fun e he => by simp [go_sem, x4, hc] at he; subst he; exact ⟨_, rfl, hB.1⟩⟩
 . -- 8
   simp at ho
   subst ho
   have e7 : a.tmps[12]?.getD undef = kidv bw i bs n forks 7:= by rw [<- Array.getD_eq_getD_getElem?]; exact hI.val 7 (by omega) (by omega) (hd ⟨7, .data⟩ (by simp) rfl)
   simp only [kidv] at e7
   refine ScS.read (v:= kidv bw i bs n forks 8) rfl hsub ho2 (by rfl) (by k_ne) (fun w₁ h₁ => ?_) (K _ _ _ (hI.put (by omega) (by omega) (by omega) (by omega) rfl))
   exact ⟨by rcases hforks with rfl | rfl | rfl <;> (go_simp <;> rfl), fun e he => by rcases hforks with rfl | rfl | rfl <;> (simp [go_sem, e7] at he)⟩
 . -- 9
   simp at ho
   subst ho
   have e5 : a.tmps[10]?.getD undef = kidv bw i bs n forks 5:= by rw [<- Array.getD_eq_getD_getElem?]; exact hI.val 5 (by omega) (by omega) (hd ⟨5, .data⟩ (by simp) rfl)
   have e6 : a.tmps[11]?.getD undef = kidv bw i bs n forks 6:= by rw [<- Array.getD_eq_getD_getElem?]; exact hI.val 6 (by omega) (by omega) (hd ⟨6, .data⟩ (by simp) rfl)
   have e8 : a.tmps[13]?.getD undef = kidv bw i bs n forks 8:= by rw [<- Array.getD_eq_getD_getElem?]; exact hI.val 8 (by omega) (by omega) (hd ⟨8, .data⟩ (by simp) rfl)
   simp only [kidv] at e5 e6 e8
   have hno : l.getD 11 false = false:= by
     cases hx : l.getD 11 false with
     | false => rfl
     | true => exact absurd (hI.up1 hx) (by rw [hfl]; decide)
   have hdd : l.getD 5 false = true:= hd ⟨5, .data⟩ (by simp) rfl
   refine ScS.enter rfl hsub ho2 (by rfl) (by k_ne) rfl Tryz.func50 (by rfl) rfl ?_
   simp only [List.map_toArray, List.map_cons, List.map_nil, Act.eval, Array.getD_eq_getD_getElem?, e5, e6, e8]
   have hc:= hI.ext.cfg
   have hC : Calm c:= by rw [hc]; exact ⟨G0.calm.deaf, G0.calm.cur, G0.calm.pend, G0.calm.kids, G0.calm.ub⟩
   refine hseal (fun y => A y \/ y = bw) c w bs _ _ hC hsub (fun x hx => ?_) (hI.nd G0) ?_
   . exact hx.elim (fun hx => Nat.lt_of_lt_of_le (G0.hA x hx) hI.ext.size) fun e => by subst e; exact hsub.low ⟨x, 3 + i, none⟩ (.inl (hI.ext.own _ G0.own))
   . intro c' w' b' E hS
     rw [Frame.finish_at, ho2]
     exact K _ _ _ (hI.call G0 (by omega) (by omega) (by omega) (by omega) hdd hno E hS)
 . -- 10
   simp at ho
   subst ho
   have e0 : a.tmps[5]?.getD undef = kidv bw i bs n forks 0:= by rw [<- Array.getD_eq_getD_getElem?]; exact hI.val 0 (by omega) (by omega) (hd ⟨0, .data⟩ (by simp) rfl)
   have e1 : a.tmps[6]?.getD undef = kidv bw i bs n forks 1:= by rw [<- Array.getD_eq_getD_getElem?]; exact hI.val 1 (by omega) (by omega) (hd ⟨1, .data⟩ (by simp) rfl)
   simp only [kidv] at e0 e1
   refine ScS.read (v:= kidv bw i bs n forks 10) rfl hsub ho2 (by rfl) (by k_ne) (fun w₁ h₁ => ?_) (K _ _ _ (hI.put (by omega) (by omega) (by omega) (by omega) rfl))
   exact ⟨by rcases G0.i2 with rfl | rfl <;> (go_simp <;> rfl), fun e he => by rcases G0.i2 with rfl | rfl <;> (simp [go_sem, e0, e1] at he)⟩
 . -- 11
   simp at ho
   subst ho
   have e10 : a.tmps[15]?.getD undef = kidv bw i bs n forks 10:= by rw [<- Array.getD_eq_getD_getElem?]; exact hI.val 10 (by omega) (by omega) (hd ⟨10, .data⟩ (by simp) rfl)
   simp only [kidv] at e10
   have hcall : l.getD 9 false = true:= hd ⟨9, .data⟩ (by simp) rfl
   obtain ⟨b', hb, hS, -⟩:= hI.snd hcall
   have hb2 : a.tmps[14]?.getD undef = .pointer (ptr b'):= by rw [<- Array.getD_eq_getD_getElem?]; exact hb
   refine ScS.write (x:= ⟨bw, 3 + i, none⟩) (v:= .pointer (ptr b')) rfl hsub (hI.ext.own _ G0.own) ho2 (by rfl) (by k_ne) (fun w₁ h₁ => ?_)
   have hI1:= hI.rely G0 h₁
   have hc:= hI1.old hfl
   have hf : w₁.frozen? ⟨bw, 3 + i, none⟩ = false:= (hI.store_thaw G0 h₁)
   refine ⟨⟨_, hc⟩, by go_simp, fun e he => by simp [go_sem, e10, hb2, hc, hf] at he; exact he, ?_⟩
   obtain ⟨b2, hb', hS', -⟩:= hI1.snd hcall
   rw [hb] at hb'
   cases hb'
   exact K _ _ _ (hI1.store G0 (by omega) (by omega) (by omega) hcall hb hS' ⟨_, hc⟩)
theorem kid_region (hseal : SealOk ty FinN n forks t) (G0 : Giv A n c0 w0 bw i t bs) (hT : a0.tmps.size = 16) (f1 : a0.tmps.getD 1 undef = .pointer (some ⟨q1, 0, none⟩)) (f2 : a0.tmps.getD 2 undef = .pointer (some ⟨q2, 0, none⟩)) (f3 : a0.tmps.getD 3 undef = .pointer (some ⟨q3, 0, none⟩)) (f4 : a0.tmps.getD 4 undef = .pointer (some ⟨q4, 0, none⟩)) (hq1 : Bx c0 w0 q1 (.slice (some ⟨bw, 3, none⟩) 2 2)) (nq1 : q1 ≠ bw) (hq2 : Bx c0 w0 q2 (.int .i64 i)) (nq2 : q2 ≠ bw) (hq3 : Bx c0 w0 q3 (.int .i64 n)) (nq3 : q3 ≠ bw) (hq4 : Bx c0 w0 q4 (.int .i64 ((forks + 1 : Nat) : Int))) (nq4 : q4 ≠ bw) (hforks : forks = 0 \/ forks = 1 \/ forks = 2)
   (K : ∀ a' c' w' b', a'.tmps.size = a0.tmps.size -> a'.defers = a0.defers -> (∀ j, j < 5 -> a'.tmps.getD j undef = a0.tmps.getD j undef) -> ExtX ty (· = ⟨bw, 3 + i, none⟩) c0 w0 c' w' -> w'.cell? ⟨bw, 3 + i, none⟩ = some (.pointer (ptr b')) -> Sd nodeT (dgw n) (Off A c' bw) w' t b' ->
     ScS ty Tryz.prog FinN .work c' (G ((baseD 81).at a' k) cs) w') :
   ScS ty Tryz.prog FinN .work c0 (G ((baseD 81).at a0 (.code (.region 1 kidops true) :: k)) cs) w0:= by
 refine ScS.drawn (I:= Itkid A ty n c0 w0 bw i t bs a0 forks) rfl mixed G0.snug (fun w₁ h₁ => ?_) (fun l a c w h => h.draw) (fun l a c w h0 hI => ?_) (fun l a c w h => h.ext.snug) (fun l a c w i hi hI rest K' => kid_step hseal G0 hT f1 f2 f3 f4 hq1 nq1 hq2 nq2 hq3 nq3 hq4 nq4 hforks hi hI rest K')
 . have hz : ∀ j, (Array.replicate kidops.size false).getD j false = true -> False:= fun j h => by rw [rep_getD] at h; cases h
   exact ⟨by rw [Array.size_replicate, kid_size], rfl, rfl, fun _ _ => rfl, fun j _ _ hl => (hz j hl).elim, fun hl => (hz _ hl).elim, fun hl => (hz _ hl).elim, (ExtX.refl G0.snug).go h₁, (h₁.same _ (.inl G0.own)).frozen.trans G0.thaw, fun _ => (h₁.same _ (.inl G0.own)).cell.trans G0.cell, fun hl => (hz _ hl).elim⟩
 . have hall : ∀ j, j < 12 -> l.getD j false = true:= fun j hj => all_up (hI.ls.trans kid_size.symm) kid_back h0 j (by rw [kid_size]; exact hj)
   obtain ⟨b', h1, h2, h3⟩:= hI.snd (hall 9 (by omega))
   exact K a c w b' hI.ts hI.df hI.fx hI.ext (h3 (hall 11 (by omega))) h2
end
noncomputable def lonops : Array Oper:= match Tryz.f63.body.getD .skip with
 | .seq _ (.seq (.seq _ (.cond _ (.seq (.seq _ (.block _ (.loop (.seq _ (.seq _ (.seq (.block _ (.seq _ (.region _ b _))) _)))))) _) _)) _) => b
 | _ => #[]
theorem lon_size : lonops.size = 7:= rfl
theorem lon_back : backB lonops = true:= by kernel_rfl
def lonv (bw i bs n _forks : Nat) : Nat -> Value
 | 0 => .slice (some ⟨bw, 3, none⟩) 2 2
 | 1 => .int .i64 i
 | 2 => .pointer (ptr bs)
 | 3 => .int .i64 n
 | 5 => .pointer (some ⟨bw, 3 + i, none⟩)
 | _ => undef
section
variable {A : Nat -> Prop} {ty : TypeId} {FinN : Perm -> Perm -> Goroutine -> World -> Prop} {n : Nat} {c0 : Cfg} {w0 : World} {bw i : Nat} {t : Tr} {bs : Nat} {a0 : Act} {l : Array Bool} {a : Act} {c : Cfg} {w : World} {k : List Item} {cs : List Frame} {forks q1 q3 : Nat}
abbrev Itlon (A : Nat -> Prop) (ty : TypeId) (n : Nat) (c0 : Cfg) (w0 : World) (bw i : Nat) (t : Tr) (bs : Nat) (a0 : Act) (forks : Nat):= It A ty n c0 w0 bw i t bs a0 7 19 2 4 6 (lonv bw i bs n forks)
set_option maxRecDepth 20000 in
set_option maxHeartbeats 8000000 in
theorem lon_step (hseal : SealOk ty FinN n 0 t) (G0 : Giv A n c0 w0 bw i t bs) (hT : a0.tmps.size = 35) (f3 : a0.tmps.getD 3 undef = .pointer (some ⟨q1, 0, none⟩)) (f4 : a0.tmps.getD 4 undef = .pointer (some ⟨q3, 0, none⟩)) (f6 : a0.tmps.getD 6 undef = .int .i64 i) (f7 : a0.tmps.getD 7 undef = .pointer (ptr bs)) (hq1 : Bx c0 w0 q1 (.slice (some ⟨bw, 3, none⟩) 2 2)) (nq1 : q1 ≠ bw) (hq3 : Bx c0 w0 q3 (.int .i64 n)) (nq3 : q3 ≠ bw) {j : Nat} (hi : j ∈ Region.ready .any lonops l) (hI : Itlon A ty n c0 w0 bw i t bs a0 forks l a c w) (rest : List Nat)
   (K : ∀ a' c' w', Itlon A ty n c0 w0 bw i t bs a0 forks (l.setIfInBounds j true) a' c' w' -> ScS ty Tryz.prog FinN .work c' (G ((base 63).at a' (.inRegion lonops rest :: k)) cs) w') :
   ScS ty Tryz.prog FinN .work c (G ((base 63).at a (.inRegion lonops (j :: rest) :: k)) cs) w:= by
 obtain ⟨hlt, hfl0, o, ho, hd⟩:= ready_spec hi
 have hfl:= getD_ft hfl0
 rw [lon_size] at hlt
 have hsub:= hI.ext.snug
 have hcases : j = 0 \/ j = 1 \/ j = 2 \/ j = 3 \/ j = 4 \/ j = 5 \/ j = 6:= by omega
 have ho2:= ho
 unfold lonops at ho
 simp only [Tryz.f63, Option.getD_some] at ho
 rcases hcases with rfl | rfl | rfl | rfl | rfl | rfl | rfl
 . -- 0
   simp at ho
   subst ho
   have x3 : a.tmps[3]?.getD undef = .pointer (some ⟨q1, 0, none⟩):= by rw [<- Array.getD_eq_getD_getElem?]; exact (hI.fx 3 (by omega)).trans f3
   refine ScS.read (v:= .slice (some ⟨bw, 3, none⟩) 2 2) rfl hsub ho2 (by rfl) (by k_ne) (fun w₁ h₁ => ?_) (K _ _ _ (hI.put (by omega) (by omega) (by omega) (by omega) rfl))
   have hB:= hI.box hq1 nq1 h₁
   have hc:= hB.2
   exact ⟨by go_simp <;> rfl, fun e he => by simp [go_sem, x3, hc] at he; subst he; exact ⟨_, rfl, hB.1⟩⟩
 . -- 1
   simp at ho
   subst ho
   have x6 : a.tmps[6]?.getD undef = .int .i64 i:= by rw [<- Array.getD_eq_getD_getElem?]; exact (hI.fx 6 (by omega)).trans f6
   refine ScS.read (v:= lonv bw i bs n forks 1) rfl hsub ho2 (by rfl) (by k_ne) (fun w₁ h₁ => ?_) (K _ _ _ (hI.put (by omega) (by omega) (by omega) (by omega) rfl))
   exact ⟨by (go_simp <;> rfl), fun e he => by (simp [go_sem, x6] at he)⟩
 . -- 2
   simp at ho
   subst ho
   have x7 : a.tmps[7]?.getD undef = .pointer (ptr bs):= by rw [<- Array.getD_eq_getD_getElem?]; exact (hI.fx 7 (by omega)).trans f7
   refine ScS.read (v:= lonv bw i bs n forks 2) rfl hsub ho2 (by rfl) (by k_ne) (fun w₁ h₁ => ?_) (K _ _ _ (hI.put (by omega) (by omega) (by omega) (by omega) rfl))
   exact ⟨by (go_simp <;> rfl), fun e he => by (simp [go_sem, x7] at he)⟩
 . -- 3
   simp at ho
   subst ho
   have x4 : a.tmps[4]?.getD undef = .pointer (some ⟨q3, 0, none⟩):= by rw [<- Array.getD_eq_getD_getElem?]; exact (hI.fx 4 (by omega)).trans f4
   refine ScS.read (v:= .int .i64 n) rfl hsub ho2 (by rfl) (by k_ne) (fun w₁ h₁ => ?_) (K _ _ _ (hI.put (by omega) (by omega) (by omega) (by omega) rfl))
   have hB:= hI.box hq3 nq3 h₁
   have hc:= hB.2
   exact ⟨by go_simp <;> rfl, fun e he => by simp [go_sem, x4, hc] at he; subst he; exact ⟨_, rfl, hB.1⟩⟩
 . -- 4
   simp at ho
   subst ho
   have e2 : a.tmps[21]?.getD undef = lonv bw i bs n forks 2:= by rw [<- Array.getD_eq_getD_getElem?]; exact hI.val 2 (by omega) (by omega) (hd ⟨2, .data⟩ (by simp) rfl)
   have e3 : a.tmps[22]?.getD undef = lonv bw i bs n forks 3:= by rw [<- Array.getD_eq_getD_getElem?]; exact hI.val 3 (by omega) (by omega) (hd ⟨3, .data⟩ (by simp) rfl)
   simp only [lonv] at e2 e3
   have hno : l.getD 6 false = false:= by
     cases hx : l.getD 6 false with
     | false => rfl
     | true => exact absurd (hI.up1 hx) (by rw [hfl]; decide)
   have hdd : l.getD 2 false = true:= hd ⟨2, .data⟩ (by simp) rfl
   refine ScS.enter rfl hsub ho2 (by rfl) (by k_ne) rfl Tryz.func50 (by rfl) rfl ?_
   simp only [List.map_toArray, List.map_cons, List.map_nil, Act.eval, Array.getD_eq_getD_getElem?, e2, e3]
   have hc:= hI.ext.cfg
   have hC : Calm c:= by rw [hc]; exact ⟨G0.calm.deaf, G0.calm.cur, G0.calm.pend, G0.calm.kids, G0.calm.ub⟩
   refine hseal (fun y => A y \/ y = bw) c w bs _ _ hC hsub (fun x hx => ?_) (hI.nd G0) ?_
   . exact hx.elim (fun hx => Nat.lt_of_lt_of_le (G0.hA x hx) hI.ext.size) fun e => by subst e; exact hsub.low ⟨x, 3 + i, none⟩ (.inl (hI.ext.own _ G0.own))
   . intro c' w' b' E hS
     rw [Frame.finish_at, ho2]
     exact K _ _ _ (hI.call G0 (by omega) (by omega) (by omega) (by omega) hdd hno E hS)
 . -- 5
   simp at ho
   subst ho
   have e0 : a.tmps[19]?.getD undef = lonv bw i bs n forks 0:= by rw [<- Array.getD_eq_getD_getElem?]; exact hI.val 0 (by omega) (by omega) (hd ⟨0, .data⟩ (by simp) rfl)
   have e1 : a.tmps[20]?.getD undef = lonv bw i bs n forks 1:= by rw [<- Array.getD_eq_getD_getElem?]; exact hI.val 1 (by omega) (by omega) (hd ⟨1, .data⟩ (by simp) rfl)
   simp only [lonv] at e0 e1
   refine ScS.read (v:= lonv bw i bs n forks 5) rfl hsub ho2 (by rfl) (by k_ne) (fun w₁ h₁ => ?_) (K _ _ _ (hI.put (by omega) (by omega) (by omega) (by omega) rfl))
   exact ⟨by rcases G0.i2 with rfl | rfl <;> (go_simp <;> rfl), fun e he => by rcases G0.i2 with rfl | rfl <;> (simp [go_sem, e0, e1] at he)⟩
 . -- 6
   simp at ho
   subst ho
   have e5 : a.tmps[24]?.getD undef = lonv bw i bs n forks 5:= by rw [<- Array.getD_eq_getD_getElem?]; exact hI.val 5 (by omega) (by omega) (hd ⟨5, .data⟩ (by simp) rfl)
   simp only [lonv] at e5
   have hcall : l.getD 4 false = true:= hd ⟨4, .data⟩ (by simp) rfl
   obtain ⟨b', hb, hS, -⟩:= hI.snd hcall
   have hb2 : a.tmps[23]?.getD undef = .pointer (ptr b'):= by rw [<- Array.getD_eq_getD_getElem?]; exact hb
   refine ScS.write (x:= ⟨bw, 3 + i, none⟩) (v:= .pointer (ptr b')) rfl hsub (hI.ext.own _ G0.own) ho2 (by rfl) (by k_ne) (fun w₁ h₁ => ?_)
   have hI1:= hI.rely G0 h₁
   have hc:= hI1.old hfl
   have hf : w₁.frozen? ⟨bw, 3 + i, none⟩ = false:= (hI.store_thaw G0 h₁)
   refine ⟨⟨_, hc⟩, by go_simp, fun e he => by simp [go_sem, e5, hb2, hc, hf] at he; exact he, ?_⟩
   obtain ⟨b2, hb', hS', -⟩:= hI1.snd hcall
   rw [hb] at hb'
   cases hb'
   exact K _ _ _ (hI1.store G0 (by omega) (by omega) (by omega) hcall hb hS' ⟨_, hc⟩)
theorem lon_region (hseal : SealOk ty FinN n 0 t) (G0 : Giv A n c0 w0 bw i t bs) (hT : a0.tmps.size = 35) (f3 : a0.tmps.getD 3 undef = .pointer (some ⟨q1, 0, none⟩)) (f4 : a0.tmps.getD 4 undef = .pointer (some ⟨q3, 0, none⟩)) (f6 : a0.tmps.getD 6 undef = .int .i64 i) (f7 : a0.tmps.getD 7 undef = .pointer (ptr bs)) (hq1 : Bx c0 w0 q1 (.slice (some ⟨bw, 3, none⟩) 2 2)) (nq1 : q1 ≠ bw) (hq3 : Bx c0 w0 q3 (.int .i64 n)) (nq3 : q3 ≠ bw)
   (K : ∀ a' c' w' b', a'.tmps.size = a0.tmps.size -> a'.defers = a0.defers -> (∀ j, j < 19 -> a'.tmps.getD j undef = a0.tmps.getD j undef) -> ExtX ty (· = ⟨bw, 3 + i, none⟩) c0 w0 c' w' -> w'.cell? ⟨bw, 3 + i, none⟩ = some (.pointer (ptr b')) -> Sd nodeT (dgw n) (Off A c' bw) w' t b' ->
     ScS ty Tryz.prog FinN .work c' (G ((base 63).at a' k) cs) w') :
   ScS ty Tryz.prog FinN .work c0 (G ((base 63).at a0 (.code (.region 5 lonops true) :: k)) cs) w0:= by
 refine ScS.drawn (I:= Itlon A ty n c0 w0 bw i t bs a0 0) rfl mixed G0.snug (fun w₁ h₁ => ?_) (fun l a c w h => h.draw) (fun l a c w h0 hI => ?_) (fun l a c w h => h.ext.snug) (fun l a c w i hi hI rest K' => lon_step hseal G0 hT f3 f4 f6 f7 hq1 nq1 hq3 nq3 hi hI rest K')
 . have hz : ∀ j, (Array.replicate lonops.size false).getD j false = true -> False:= fun j h => by rw [rep_getD] at h; cases h
   exact ⟨by rw [Array.size_replicate, lon_size], rfl, rfl, fun _ _ => rfl, fun j _ _ hl => (hz j hl).elim, fun hl => (hz _ hl).elim, fun hl => (hz _ hl).elim, (ExtX.refl G0.snug).go h₁, (h₁.same _ (.inl G0.own)).frozen.trans G0.thaw, fun _ => (h₁.same _ (.inl G0.own)).cell.trans G0.cell, fun hl => (hz _ hl).elim⟩
 . have hall : ∀ j, j < 7 -> l.getD j false = true:= fun j hj => all_up (hI.ls.trans lon_size.symm) lon_back h0 j (by rw [lon_size]; exact hj)
   obtain ⟨b', h1, h2, h3⟩:= hI.snd (hall 4 (by omega))
   exact K a c w b' hI.ts hI.df hI.fx hI.ext (h3 (hall 6 (by omega))) h2
end
noncomputable def bot : Frame:= { (default : Frame) with fn:= Tryz.prog.funcs.size, defers:= [], mode:= .panicking [goexitEntry] }
noncomputable def kidBody : Code:= Tryz.f81.body.getD .skip
def kidCall (z q1 q2 q3 q4 : Nat) : Deferred:= { target:= .fn (.func 81) #[.pointer (some ⟨z, 0, none⟩), .pointer (some ⟨q1, 0, none⟩), .pointer (some ⟨q2, 0, none⟩), .pointer (some ⟨q3, 0, none⟩), .pointer (some ⟨q4, 0, none⟩)], args:= #[] }
theorem kid_quits (T : Array Value) : QuitsD Tryz.prog 2 0 (G { (baseD 81).at ⟨T, []⟩ [] with mode:= .returning } [bot]):= by
 refine QuitsD.ctl (g':= G bot []) rfl (fun w => ?_) ?_
 . simp [G, stepG, unwind, doReturn, results, Frame.at, baseD, bot, Tryz.func81, Tryz.f81, seen, GStep.after, goexitEntry]
 refine QuitsD.ctl (g':= { G bot [] with status:= .finished }) rfl (fun w => ?_) ⟨rfl, rfl⟩
 simp [G, stepG, unwind, bot, goexitEntry, Frame.catches]
 rfl
theorem born_step (m : Bool) (z q1 q2 q3 q4 : Nat) (w : World) : stepG Tryz.prog m (born Tryz.prog (kidCall z q1 q2 q3 q4)) w =
   .go (G ((baseD 81).at ⟨#[.pointer (some ⟨z, 0, none⟩), .pointer (some ⟨q1, 0, none⟩), .pointer (some ⟨q2, 0, none⟩), .pointer (some ⟨q3, 0, none⟩), .pointer (some ⟨q4, 0, none⟩), undef, undef, undef, undef, undef, undef, undef, undef, undef, undef, undef], []⟩ [.code kidBody]) [bot]) w #[]:= by
 simp [born, kidCall, stepG, unwind, callDeferred, invoke, callFunc, Tryz.func81, Tryz.f81, seen, GStep.after, G, Frame.enter, Frame.at, baseD, bot, kidBody]
section
variable {A : Nat -> Prop} {FinN : Perm -> Perm -> Goroutine -> World -> Prop} {n : Nat} {c0 : Cfg} {w0 : World} {bw i : Nat} {t : Tr} {bs : Nat} {forks q1 q2 q3 q4 z : Nat} {V : Vow}
structure Kf (A : Nat -> Prop) (n : Nat) (c0 : Cfg) (bw i : Nat) (t : Tr) (bs q1 q2 q3 q4 : Nat) (forks : Nat) (w : World) : Prop where
 giv : Giv A n c0 w bw i t bs
 b1 : Bx c0 w q1 (.slice (some ⟨bw, 3, none⟩) 2 2)
 b2 : Bx c0 w q2 (.int .i64 i)
 b3 : Bx c0 w q3 (.int .i64 n)
 b4 : Bx c0 w q4 (.int .i64 ((forks + 1 : Nat) : Int))
theorem Bx.rely {c : Cfg} {ty : TypeId} {w w₁ : World} {q : Nat} {v : Value} (h : Bx c w q v) (r : Rely ty c w w₁) : Bx c w₁ q v:= ⟨h.1, (r.same _ h.1).cell.trans h.2⟩
theorem Giv.rely {ty : TypeId} {w w₁ : World} (h : Giv A n c0 w bw i t bs) (r : Rely ty c0 w w₁) : Giv A n c0 w₁ bw i t bs :=
 have e:= r.same ⟨bw, 3 + i, none⟩ (.inl h.own)
 ⟨h.calm, h.snug.rely r, fun x hx => Nat.lt_of_lt_of_le (h.hA x hx) r.size, h.own, e.cell.trans h.cell, e.frozen.trans h.thaw, h.nd.same fun x hx => r.same x (hx.1.2 x rfl), h.i2⟩
theorem kf_rely {ty : TypeId} {w w₁ : World} (h : Kf A n c0 bw i t bs q1 q2 q3 q4 forks w) (r : Rely ty c0 w w₁) : Kf A n c0 bw i t bs q1 q2 q3 q4 forks w₁:= ⟨h.giv.rely r, h.b1.rely r, h.b2.rely r, h.b3.rely r, h.b4.rely r⟩
def Kl (c0 : Cfg) (z : Nat) (V : Vow) (w : World) : Prop:= WgLive link.tWg z w /\ Snug c0 w /\ V.ok c0.own c0.rd w
set_option maxRecDepth 20000 in
set_option maxHeartbeats 4000000 in
theorem kid_script (hseal : SealOk link.tWg FinN n forks t) (hforks : forks = 0 \/ forks = 1 \/ forks = 2) (hup : c0.up = some (z, V)) (hK : Kf A n c0 bw i t bs q1 q2 q3 q4 forks w0) (hz : WgLive link.tWg z w0) (n1 : q1 ≠ bw) (n2 : q2 ≠ bw) (n3 : q3 ≠ bw) (n4 : q4 ≠ bw)
   (hV : ∀ w1, Rely link.tWg c0 w0 w1 -> ∀ c' w' b', ExtX link.tWg (· = ⟨bw, 3 + i, none⟩) c0 w1 c' w' -> w'.cell? ⟨bw, 3 + i, none⟩ = some (.pointer (ptr b')) -> Sd nodeT (dgw n) (Off A c' bw) w' t b' -> V.ok c'.own c'.rd w') :
   ScS link.tWg Tryz.prog FinN .work c0 (born Tryz.prog (kidCall z q1 q2 q3 q4)) w0:= by
 have hK2 : Kf A n c0 bw i t bs q1 q2 q3 q4 forks w0 /\ WgLive link.tWg z w0 /\ Rely link.tWg c0 w0 w0:= ⟨hK, hz, .refl _ _ _⟩
 clear hK hz
 have rl : ∀ {x y : World}, (Kf A n c0 bw i t bs q1 q2 q3 q4 forks x /\ WgLive link.tWg z x /\ Rely link.tWg c0 w0 x) -> Rely link.tWg c0 x y -> (Kf A n c0 bw i t bs q1 q2 q3 q4 forks y /\ WgLive link.tWg z y /\ Rely link.tWg c0 w0 y):= fun h r => ⟨kf_rely h.1 r, r.up z V hup h.2.1, h.2.2.trans _ r⟩
 refine ScS.ctl rfl rfl rfl hK2.1.giv.snug (fun w₁ => born_step _ z q1 q2 q3 q4 w₁) ?_
 simp only [kidBody, Tryz.f81, Option.getD_some]
 refine goes_run 60 (.inl rfl) rfl hK2.1.giv.snug ?_
 u_c stepG_seq rl hK2
 u_reg rl hK2
 u_defer rl hK2
 u_c stepG_region_end rl hK2
 refine Goes.stop (fun w₁ h₁ => ?_)
 replace hK2:= rl hK2 h₁
 clear h₁
 refine kid_region (q1:= q1) (q2:= q2) (q3:= q3) (q4:= q4) hseal hK2.1.giv rfl rfl rfl rfl rfl hK2.1.b1 n1 hK2.1.b2 n2 hK2.1.b3 n3 hK2.1.b4 n4 hforks ?_
 intro a' c' w' b' ts df fx E hc hS
 obtain ⟨T, ds⟩:= a'
 replace df : ds = [dcall 82 #[.pointer (some ⟨z, 0, none⟩)]]:= df
 subst df
 have hup' : c'.up = some (z, V):= by rw [E.cfg]; exact hup
 have hL : Kl c' z V w':= ⟨E.up z V hup hK2.2.1, E.snug, hV _ hK2.2.2 c' w' b' E hc hS⟩
 have hcalm : c'.deaf = 0 /\ c'.cur = none /\ c'.pend = false /\ c'.ub = 0:= by
   rw [E.cfg]
   have h:= hK2.1.giv.calm
   exact ⟨h.deaf, h.cur, h.pend, h.ub⟩
 clear fx ts hc hS E hK2 rl
 refine ScS.ctl rfl rfl rfl hL.2.1 (fun w₁ => stepG_end) ?_
 refine ScS.ctl rfl rfl rfl hL.2.1 (fun w₁ => stepG_unwind_enter rfl wgLib.f_done (nm_done link) rfl) ?_
 have hA:= @doneS link Tryz.prog FinN c' z 0 V w' ({ (baseD 81).at ⟨T, []⟩ [] with mode:= .returning }) [bot] 2 wgLib hup' hcalm.2.1 rfl (kid_quits T) hL.2.2 w' ⟨.refl _ _ _, hL.1, hL.2.1⟩
 have e : cf c' 0 false 0 = c':= by
   obtain ⟨h1, h2, h3, h4⟩:= hcalm
   cases c'
   simp only at h1 h3 h4
   subst h1 h3 h4
   rfl
 rw [e] at hA
 exact hA
end
structure Nx (w0 : World) (c : Cfg) (x : World) (q : Nat) (v : Value) : Prop where
 own : c.own ⟨q, 0, none⟩
 cell : x.cell? ⟨q, 0, none⟩ = some v
 thaw : x.frozen? ⟨q, 0, none⟩ = false
 new : w0.heap.size <= q
structure Bd (ty : TypeId) (c0 : Cfg) (w0 : World) (L : List (Nat × Value)) (c : Cfg) (x : World) : Prop where
 ext : ExtX ty (fun _ => False) c0 w0 c x
 bx : ∀ q v, (q, v) ∈ L -> Nx w0 c x q v
section
variable {ty : TypeId} {P : Program} {FinN : Perm -> Perm -> Goroutine -> World -> Prop} {s : Stg} {c0 c : Cfg} {w0 w : World} {b : Frame} {a : Act} {k : List Item} {cs : List Frame} {ops : Array Oper} {i : Nat} {rest : List Nat} {o : Oper} {L : List (Nat × Value)}
theorem Nx.rely {q : Nat} {v : Value} {x y : World} (h : Nx w0 c x q v) (r : Rely ty c x y) : Nx w0 c y q v :=
 have e:= r.same ⟨q, 0, none⟩ (.inl h.own)
 ⟨h.own, e.cell.trans h.cell, e.frozen.trans h.thaw, h.new⟩
theorem Nx.ext {X : Addr -> Prop} {c' : Cfg} {q : Nat} {v : Value} {x y : World} (h : Nx w0 c x q v) (E : ExtX ty X c x c' y) (hX : ¬ X ⟨q, 0, none⟩) : Nx w0 c' y q v :=
 have e:= E.same ⟨q, 0, none⟩ (.inl h.own) hX
 ⟨E.own _ h.own, e.cell.trans h.cell, e.frozen.trans h.thaw, h.new⟩
theorem bd_rely {x y : World} (h : Bd ty c0 w0 L c x) (r : Rely ty c x y) : Bd ty c0 w0 L c y:= ⟨h.ext.go r, fun q v hq => (h.bx q v hq).rely r⟩
theorem Nx.bx {q : Nat} {v : Value} {x : World} (h : Nx w0 c x q v) : Bx c x q v:= ⟨.inl h.own, h.cell⟩
theorem ScS.box {v : Value} {t : TypeId} (hs : s.early = true) (B : Bd ty c0 w0 L c w) (ho : ops[i]? = some o) (hw : Region.wanted o (yielded ops a.tmps) = true) (hk : b.kind ≠ .early)
   (h : ∀ w₁ : World, (execOp a.eval o).run P w₁ = .ok (.value (.pointer (some ⟨w₁.heap.size, 0, none⟩))) (fresh w₁ (.cells #[v] t)) /\ ∀ e ∈ (execOp a.eval o).events P w₁ #[], False)
   (K : ∀ q c' w', (∀ v', (q, v') ∉ L) -> Bd ty c0 w0 ((q, v) :: L) c' w' -> ScS ty P FinN s c' (G (b.at (a.put o.dst (.pointer (some ⟨q, 0, none⟩))) (.inRegion ops rest :: k)) cs) w') :
   ScS ty P FinN s c (G (b.at a (.inRegion ops (i :: rest) :: k)) cs) w:= by
 refine ScS.make (v:= fun w₁ => .pointer (some ⟨w₁.heap.size, 0, none⟩)) (ob:= fun _ => .cells #[v] t) hs B.ext.snug ho hw hk (fun w₁ h₁ => ⟨(h w₁).1, (h w₁).2, fun S2 => ?_⟩)
 have B1:= bd_rely B h₁
 have S1:= B1.ext.snug
 have E:= Ext.fresh (ty:= ty) S1 S2
 refine K _ _ _ (fun v' hv => Nat.lt_irrefl _ (S1.low ⟨w₁.heap.size, 0, none⟩ (.inl (B1.bx _ _ hv).own))) ⟨B1.ext.trans E.x (fun _ e _ => e), fun q v' hq => ?_⟩
 rcases List.mem_cons.1 hq with e | hq
 . cases e
   exact ⟨fresh_own rfl, by simp only [World.cell?, fresh_new]; simp, by simp only [World.frozen?, fresh_new]; simp, B1.ext.size⟩
 . exact (B1.bx q v' hq).ext (E.x (X:= fun _ => False)) (fun e => e)
end
theorem array35 (T : Array Value) (h : T.size = 35) : ∃ v0 v1 v2 v3 v4 v5 v6 v7 v8 v9 v10 v11 v12 v13 v14 v15 v16 v17 v18 v19 v20 v21 v22 v23 v24 v25 v26 v27 v28 v29 v30 v31 v32 v33 v34 : Value, T = #[v0, v1, v2, v3, v4, v5, v6, v7, v8, v9, v10, v11, v12, v13, v14, v15, v16, v17, v18, v19, v20, v21, v22, v23, v24, v25, v26, v27, v28, v29, v30, v31, v32, v33, v34]:= by
 obtain ⟨l⟩:= T
 simp only [List.size_toArray] at h
 rcases l with _ | ⟨v0, l⟩
 . simp at h
 rcases l with _ | ⟨v1, l⟩
 . simp at h
 rcases l with _ | ⟨v2, l⟩
 . simp at h
 rcases l with _ | ⟨v3, l⟩
 . simp at h
 rcases l with _ | ⟨v4, l⟩
 . simp at h
 rcases l with _ | ⟨v5, l⟩
 . simp at h
 rcases l with _ | ⟨v6, l⟩
 . simp at h
 rcases l with _ | ⟨v7, l⟩
 . simp at h
 rcases l with _ | ⟨v8, l⟩
 . simp at h
 rcases l with _ | ⟨v9, l⟩
 . simp at h
 rcases l with _ | ⟨v10, l⟩
 . simp at h
 rcases l with _ | ⟨v11, l⟩
 . simp at h
 rcases l with _ | ⟨v12, l⟩
 . simp at h
 rcases l with _ | ⟨v13, l⟩
 . simp at h
 rcases l with _ | ⟨v14, l⟩
 . simp at h
 rcases l with _ | ⟨v15, l⟩
 . simp at h
 rcases l with _ | ⟨v16, l⟩
 . simp at h
 rcases l with _ | ⟨v17, l⟩
 . simp at h
 rcases l with _ | ⟨v18, l⟩
 . simp at h
 rcases l with _ | ⟨v19, l⟩
 . simp at h
 rcases l with _ | ⟨v20, l⟩
 . simp at h
 rcases l with _ | ⟨v21, l⟩
 . simp at h
 rcases l with _ | ⟨v22, l⟩
 . simp at h
 rcases l with _ | ⟨v23, l⟩
 . simp at h
 rcases l with _ | ⟨v24, l⟩
 . simp at h
 rcases l with _ | ⟨v25, l⟩
 . simp at h
 rcases l with _ | ⟨v26, l⟩
 . simp at h
 rcases l with _ | ⟨v27, l⟩
 . simp at h
 rcases l with _ | ⟨v28, l⟩
 . simp at h
 rcases l with _ | ⟨v29, l⟩
 . simp at h
 rcases l with _ | ⟨v30, l⟩
 . simp at h
 rcases l with _ | ⟨v31, l⟩
 . simp at h
 rcases l with _ | ⟨v32, l⟩
 . simp at h
 rcases l with _ | ⟨v33, l⟩
 . simp at h
 rcases l with _ | ⟨v34, l⟩
 . simp at h
 rcases l with _ | ⟨x, l⟩
 . exact ⟨_, _, _, _, _, _, _, _, _, _, _, _, _, _, _, _, _, _, _, _, _, _, _, _, _, _, _, _, _, _, _, _, _, _, _, rfl⟩
 . simp at h
noncomputable def sidesRest : Code:= match Tryz.f63.body.getD .skip with
 | .seq _ r => r
 | _ => .skip
noncomputable def sidesTail : Code:= match sidesRest with
 | .seq _ r => r
 | _ => .skip
noncomputable def lonLb : Code:= match sidesRest with
 | .seq (.seq _ (.cond _ (.seq (.seq _ (.block _ (.loop l))) _) _)) _ => l
 | _ => .skip
section
variable {A : Nat -> Prop} {ty : TypeId} {FinN : Perm -> Perm -> Goroutine -> World -> Prop} {n : Nat} {c : Cfg} {w : World} {bw : Nat} {b : Frame} {cs : List Frame}
set_option maxRecDepth 20000 in
set_option maxHeartbeats 4000000 in
theorem sides_boxes (forks : Nat) (S : Snug c w)
   (K : ∀ q1 q3 q4 c' w', q1 ≠ q3 -> q1 ≠ q4 -> q3 ≠ q4 -> Bd ty c w [(q4, .int .i64 forks), (q3, .int .i64 n), (q1, .slice (some ⟨bw, 3, none⟩) 2 2)] c' w' ->
     ScS ty Tryz.prog FinN .work c' (G ((base 63).at ⟨#[.slice (some ⟨bw, 3, none⟩) 2 2, .int .i64 n, .int .i64 forks, .pointer (some ⟨q1, 0, none⟩), .pointer (some ⟨q3, 0, none⟩), .pointer (some ⟨q4, 0, none⟩), undef, undef, undef, undef, undef, undef, undef, undef, undef, undef, undef, undef, undef, undef, undef, undef, undef, undef, undef, undef, undef, undef, undef, undef, undef, undef, undef, undef, undef], []⟩ [.code sidesRest]) (b :: cs)) w') :
   ScS ty Tryz.prog FinN .work c (live (Frame.enter Tryz.prog 63 #[.slice (some ⟨bw, 3, none⟩) 2 2, .int .i64 n, .int .i64 forks] .normal) (b :: cs)) w:= by
 have hB : Bd ty c w [] c w:= ⟨.refl S, fun q v h => by cases h⟩
 rw [enter_at _ Tryz.func63 (by rfl)]
 walk_nrmf Tryz.f63
 show ScS ty Tryz.prog FinN .work c (G _ _) w
 refine goes_run 60 (.inl rfl) rfl hB.ext.snug ?_
 u_c stepG_seq bd_rely hB
 u_reg bd_rely hB
 refine Goes.stop (fun w₁ h₁ => ?_)
 replace hB:= bd_rely hB h₁
 clear h₁
 refine ScS.box (v:= .slice (some ⟨bw, 3, none⟩) 2 2) (t:= 108) rfl hB rfl (by rfl) (by k_ne) (fun w₁ => ⟨by go_simp <;> rfl, fun e he => by simp [go_sem] at he⟩) ?_
 intro q1 c1 w1 d1 hB1
 walk_nrm
 refine ScS.box (v:= .int .i64 n) (t:= 3) rfl hB1 rfl (by rfl) (by k_ne) (fun w₁ => ⟨by go_simp <;> rfl, fun e he => by simp [go_sem] at he⟩) ?_
 intro q3 c3 w3 d3 hB3
 walk_nrm
 refine ScS.box (v:= .int .i64 forks) (t:= 3) rfl hB3 rfl (by rfl) (by k_ne) (fun w₁ => ⟨by go_simp <;> rfl, fun e he => by simp [go_sem] at he⟩) ?_
 intro q4 c4 w4 d4 hB4
 walk_nrm
 refine ScS.ctl rfl rfl rfl hB4.ext.snug (fun w₁ => stepG_region_end) ?_
 exact K q1 q3 q4 c4 w4 (fun e => d3 _ (by subst e; exact List.mem_cons_self)) (fun e => d4 _ (by subst e; exact List.mem_cons_of_mem _ List.mem_cons_self)) (fun e => d4 _ (by subst e; exact List.mem_cons_self)) hB4
structure Af (bw q1 q3 : Nat) (i : Nat) (a : Act) : Prop where
 ts : a.tmps.size = 35
 df : a.defers = []
 t3 : a.tmps.getD 3 undef = .pointer (some ⟨q1, 0, none⟩)
 t4 : a.tmps.getD 4 undef = .pointer (some ⟨q3, 0, none⟩)
 t12 : a.tmps.getD 12 undef = .slice (some ⟨bw, 3, none⟩) 2 2
 t13 : a.tmps.getD 13 undef = .int .i64 2
 t14 : a.tmps.getD 14 undef = .int .i64 i
def Lf (A : Nat -> Prop) (n : Nat) (c : Cfg) (bw i : Nat) (t : Tr) (bs q1 q3 : Nat) (x : World) : Prop:= Giv A n c x bw i t bs /\ Bx c x q1 (.slice (some ⟨bw, 3, none⟩) 2 2) /\ Bx c x q3 (.int .i64 n) /\ True
theorem lf_rely {i : Nat} {t : Tr} {bs q1 q3 : Nat} {x y : World} (h : Lf A n c bw i t bs q1 q3 x) (r : Rely ty c x y) : Lf A n c bw i t bs q1 q3 y:= ⟨h.1.rely r, h.2.1.rely r, h.2.2.1.rely r, trivial⟩
set_option maxRecDepth 20000 in
set_option maxHeartbeats 4000000 in
theorem lon_iter {i : Nat} {t : Tr} {bs q1 q3 : Nat} {a : Act} {x : World} (hseal : SealOk ty FinN n 0 t) (hF : Lf A n c bw i t bs q1 q3 x) (n1 : q1 ≠ bw) (n3 : q3 ≠ bw) (ha : Af bw q1 q3 i a)
   (K : ∀ a' x1 c' x' b', Af bw q1 q3 (i + 1) a' -> Rely ty c x x1 -> ExtX ty (· = ⟨bw, 3 + i, none⟩) c x1 c' x' -> x'.cell? ⟨bw, 3 + i, none⟩ = some (.pointer (ptr b')) -> Sd nodeT (dgw n) (Off A c' bw) x' t b' ->
     ScS ty Tryz.prog FinN .work c' (G ((base 63).at a' [.code lonLb, .inLoop lonLb, .inBlock 0, .code .ret, .code sidesTail]) (b :: cs)) x') :
   ScS ty Tryz.prog FinN .work c (G ((base 63).at a [.code lonLb, .inLoop lonLb, .inBlock 0, .code .ret, .code sidesTail]) (b :: cs)) x:= by
 obtain ⟨T, ds⟩:= a
 obtain ⟨ts, df, t3, t4, t12, t13, t14⟩:= ha
 replace df : ds = []:= df
 subst df
 obtain ⟨v0, v1, v2, v3, v4, v5, v6, v7, v8, v9, v10, v11, v12, v13, v14, v15, v16, v17, v18, v19, v20, v21, v22, v23, v24, v25, v26, v27, v28, v29, v30, v31, v32, v33, v34, rfl⟩:= array35 T ts
 simp only []
 simp only [Array.getD_eq_getD_getElem?, List.getElem?_toArray, List.getElem?_cons_succ, List.getElem?_cons_zero, Option.getD_some] at t3 t4 t12 t13 t14
 subst t3 t4 t12 t13 t14
 have hG : Lf A n c bw i t bs q1 q3 x /\ Rely ty c x x:= ⟨hF, .refl _ _ _⟩
 have rl : ∀ {y z : World}, (Lf A n c bw i t bs q1 q3 y /\ Rely ty c x y) -> Rely ty c y z -> (Lf A n c bw i t bs q1 q3 z /\ Rely ty c x z):= fun h r => ⟨lf_rely h.1 r, h.2.trans _ r⟩
 have i2:= hF.1.i2
 clear hF
 have hE : ScS ty Tryz.prog FinN .work c (G ((base 63).at ⟨#[v0, v1, v2, .pointer (some ⟨q1, 0, none⟩), .pointer (some ⟨q3, 0, none⟩), v5, v6, v7, v8, v9, v10, v11, .slice (some ⟨bw, 3, none⟩) 2 2, .int .i64 2, .int .i64 i, v15, v16, v17, v18, v19, v20, v21, v22, v23, v24, v25, v26, v27, v28, v29, v30, v31, v32, v33, v34], []⟩ [.code lonLb, .inLoop lonLb, .inBlock 0, .code .ret, .code sidesTail]) (b :: cs)) x:= by
   simp only [lonLb, sidesTail, sidesRest, Tryz.f63, Option.getD_some] at K ⊢
   refine goes_run 60 (.inl rfl) rfl hG.1.1.snug ?_
   u_c stepG_seq rl hG
   u_reg rl hG
   u_op rl hG
   u_c stepG_region_end rl hG
   u_c stepG_seq rl hG
   have hlt : ((i : Int) < 2):= by omega
   simp only [hlt, decide_true]
   u_cond true rl hG
   u_c stepG_skip rl hG
   u_c stepG_seq rl hG
   u_c stepG_block rl hG
   u_c stepG_seq rl hG
   u_reg rl hG
   u_op rl hG
   refine Goes.stop (fun w₁ h₁ => ?_)
   replace hG:= rl hG h₁
   clear h₁
   refine ScS.read (v:= .pointer (some ⟨bw, 3 + i, none⟩)) rfl hG.1.1.snug rfl (by rfl) (by k_ne) (fun w₁ h₁ => ⟨by rcases i2 with rfl | rfl <;> (go_simp <;> rfl), fun e he => by rcases i2 with rfl | rfl <;> simp [go_sem] at he⟩) ?_
   walk_nrm
   refine ScS.read (v:= .pointer (ptr bs)) rfl hG.1.1.snug rfl (by rfl) (by k_ne) (fun w₁ h₁ => ?_) ?_
   . have hc:= (lf_rely hG.1 h₁).1.cell
     exact ⟨by go_simp, fun e he => by simp [go_sem, hc] at he; subst he; exact ⟨_, rfl, .inl hG.1.1.own⟩⟩
   walk_nrm
   refine goes_run 60 (.inl rfl) rfl hG.1.1.snug ?_
   u_op rl hG
   u_op rl hG
   u_c stepG_region_end rl hG
   refine Goes.stop (fun w₁ h₁ => ?_)
   replace hG:= rl hG h₁
   clear h₁
   refine lon_region (q1:= q1) (q3:= q3) hseal hG.1.1 rfl rfl rfl rfl rfl hG.1.2.1 n1 hG.1.2.2.1 n3 ?_
   intro a' c' w' b' ts' df' fx' E hc hS
   have hx:= hG.2
   have hH : ExtX ty (· = ⟨bw, 3 + i, none⟩) c _ c' w' /\ w'.cell? ⟨bw, 3 + i, none⟩ = some (.pointer (ptr b')) /\ Sd nodeT (dgw n) (Off A c' bw) w' t b':= ⟨E, hc, hS⟩
   have rl2 : ∀ {y z : World}, (ExtX ty (· = ⟨bw, 3 + i, none⟩) c w₁ c' y /\ y.cell? ⟨bw, 3 + i, none⟩ = some (.pointer (ptr b')) /\ Sd nodeT (dgw n) (Off A c' bw) y t b') -> Rely ty c' y z -> (ExtX ty (· = ⟨bw, 3 + i, none⟩) c w₁ c' z /\ z.cell? ⟨bw, 3 + i, none⟩ = some (.pointer (ptr b')) /\ Sd nodeT (dgw n) (Off A c' bw) z t b'):= fun h r => ⟨h.1.go r, (r.same _ (.inl (E.own _ hG.1.1.own))).cell.trans h.2.1, h.2.2.same fun a ha => r.same a (ha.1.2 a rfl)⟩
   have f3:= fx' 3 (by omega)
   have f4:= fx' 4 (by omega)
   have f12:= fx' 12 (by omega)
   have f13:= fx' 13 (by omega)
   have f14:= fx' 14 (by omega)
   obtain ⟨T2, ds2⟩:= a'
   replace df' : ds2 = []:= df'
   subst df'
   replace ts' : T2.size = 35:= ts'
   clear fx' E hc hS hG rl
   obtain ⟨u0, u1, u2, u3, u4, u5, u6, u7, u8, u9, u10, u11, u12, u13, u14, u15, u16, u17, u18, u19, u20, u21, u22, u23, u24, u25, u26, u27, u28, u29, u30, u31, u32, u33, u34, rfl⟩:= array35 T2 ts'
   simp only [] at f3 f4 f12 f13 f14
   simp only [Array.getD_eq_getD_getElem?, List.getElem?_toArray, List.getElem?_cons_succ, List.getElem?_cons_zero, Option.getD_some] at f3 f4 f12 f13 f14
   subst f3 f4 f12 f13 f14
   simp only []
   refine goes_run 60 (.inl rfl) rfl hH.1.snug ?_
   u_c stepG_inBlock rl2 hH
   u_reg rl2 hH
   u_op rl2 hH
   u_op rl2 hH
   u_c stepG_region_end rl2 hH
   u_c stepG_inLoop rl2 hH
   refine Goes.stop (fun w₂ h₁ => ?_)
   replace hH:= rl2 hH h₁
   clear h₁
   refine K _ w₁ c' w₂ b' ?_ hx hH.1 hH.2.1 hH.2.2
   rcases i2 with rfl | rfl <;> exact ⟨rfl, rfl, rfl, rfl, rfl, rfl, rfl⟩
 exact hE
end
section
variable {A : Nat -> Prop} {ty : TypeId} {FinN : Perm -> Perm -> Goroutine -> World -> Prop} {n : Nat} {c : Cfg} {w : World} {bw : Nat} {b : Frame} {cs : List Frame}
theorem giv_ext {X : Addr -> Prop} {c' : Cfg} {i : Nat} {t : Tr} {bs : Nat} {x : World} (h : Giv A n c w bw i t bs) (E : ExtX ty X c w c' x) (hX : ¬ X ⟨bw, 3 + i, none⟩) (hX2 : ∀ a, X a -> a.block = bw) : Giv A n c' x bw i t bs:= by
 have e:= E.same ⟨bw, 3 + i, none⟩ (.inl h.own) hX
 have hc : Calm c':= by rw [E.cfg]; exact ⟨h.calm.deaf, h.calm.cur, h.calm.pend, h.calm.kids, h.calm.ub⟩
 exact ⟨hc, E.snug, fun y hy => Nat.lt_of_lt_of_le (h.hA y hy) E.size, E.own _ h.own, e.cell.trans h.cell, e.frozen.trans h.thaw,
   (h.nd.same fun a ha => E.same a (ha.1.2 a rfl) fun hx => ha.2 (hX2 a hx)).mono fun b hb => ⟨rr_extx h.snug E b hb.1, hb.2⟩, h.i2⟩
theorem sd_ext {X : Addr -> Prop} {c' : Cfg} {t : Tr} {bs : Nat} {x : World} (h : Sd nodeT (dgw n) (Off A c bw) w t bs) (E : ExtX ty X c w c' x) (hX2 : ∀ a, X a -> a.block = bw) : Sd nodeT (dgw n) (Off A c' bw) x t bs :=
 (h.same fun a ha => E.same a (ha.1.2 a rfl) fun hx => ha.2 (hX2 a hx)).mono fun b hb => ⟨⟨hb.1.1, E.rof b hb.1.2⟩, hb.2⟩
def Rl (ty : TypeId) (c : Cfg) (x y : World) : Prop:= Rely ty c x y /\ Snug c y
theorem rl_rely {x y z : World} (h : Rl ty c x y) (r : Rely ty c y z) : Rl ty c x z:= ⟨h.1.trans ty r, h.2.rely r⟩
set_option maxRecDepth 20000 in
set_option maxHeartbeats 4000000 in
theorem lon_exit {q1 q3 : Nat} {a : Act} {x : World} (S : Snug c x) (ha : Af bw q1 q3 2 a) (K : ∀ y, Rely ty c x y -> ScS ty Tryz.prog FinN .work c (G (b.finish (.tuple #[])) cs) y) :
   ScS ty Tryz.prog FinN .work c (G ((base 63).at a [.code lonLb, .inLoop lonLb, .inBlock 0, .code .ret, .code sidesTail]) (b :: cs)) x:= by
 obtain ⟨T, ds⟩:= a
 obtain ⟨ts, df, t3, t4, t12, t13, t14⟩:= ha
 replace df : ds = []:= df
 subst df
 obtain ⟨v0, v1, v2, v3, v4, v5, v6, v7, v8, v9, v10, v11, v12, v13, v14, v15, v16, v17, v18, v19, v20, v21, v22, v23, v24, v25, v26, v27, v28, v29, v30, v31, v32, v33, v34, rfl⟩:= array35 T ts
 simp only []
 simp only [Array.getD_eq_getD_getElem?, List.getElem?_toArray, List.getElem?_cons_succ, List.getElem?_cons_zero, Option.getD_some] at t3 t4 t12 t13 t14
 subst t3 t4 t12 t13 t14
 have hG : Rl ty c x x:= ⟨.refl _ _ _, S⟩
 have hE : ScS ty Tryz.prog FinN .work c (G ((base 63).at ⟨#[v0, v1, v2, .pointer (some ⟨q1, 0, none⟩), .pointer (some ⟨q3, 0, none⟩), v5, v6, v7, v8, v9, v10, v11, .slice (some ⟨bw, 3, none⟩) 2 2, .int .i64 2, .int .i64 ((2 : Nat) : Int), v15, v16, v17, v18, v19, v20, v21, v22, v23, v24, v25, v26, v27, v28, v29, v30, v31, v32, v33, v34], []⟩ [.code lonLb, .inLoop lonLb, .inBlock 0, .code .ret, .code sidesTail]) (b :: cs)) x:= by
   simp only [lonLb, sidesTail, sidesRest, Tryz.f63, Option.getD_some]
   refine goes_run 60 (.inl rfl) rfl hG.2 ?_
   u_c stepG_seq rl_rely hG
   u_reg rl_rely hG
   u_op rl_rely hG
   u_c stepG_region_end rl_rely hG
   u_c stepG_seq rl_rely hG
   u_cond false rl_rely hG
   u_exit rl_rely hG
   u_c stepG_ret' rl_rely hG
   refine Goes.stop (fun w₁ h₁ => ?_)
   replace hG:= rl_rely hG h₁
   exact ScS.ctl rfl rfl rfl hG.2 (fun w₁ => stepG_leave rfl rfl Tryz.func63 (results_none (fn:= Tryz.f63) rfl _ _ _) (events_results_none (fn:= Tryz.f63) rfl _ _)) (K _ hG.1)
 exact hE
set_option maxRecDepth 20000 in
set_option maxHeartbeats 4000000 in
theorem sides_ok0 {tl tr : Tr} (h1 : SealOk ty FinN n 0 tl) (h2 : SealOk ty FinN n 0 tr) : SidesOk ty FinN n 0 tl tr:= by
 intro A c w bw bl br b cs hC S hA hlow o3 o4 r3 r4 e3 e4 t3 t4 N1 N2 K
 have G0 : Giv A n c w bw 0 tl bl:= ⟨hC, S, hA, o3, e3, t3, N1, .inl rfl⟩
 have G1 : Giv A n c w bw 1 tr br:= ⟨hC, S, hA, o4, e4, t4, N2, .inr rfl⟩
 refine sides_boxes 0 S ?_
 intro q1 q3 q4 c1 x1 _ _ _ hB
 have hbw : bw < w.heap.size:= S.low ⟨bw, 3, none⟩ (.inl o3)
 have n1 : q1 ≠ bw:= by have:= (hB.bx q1 _ (.tail _ (.tail _ (.head _)))).new; omega
 have n3 : q3 ≠ bw:= by have:= (hB.bx q3 _ (.tail _ (.head _))).new; omega
 have hE : ScS ty Tryz.prog FinN .work c1 (G ((base 63).at ⟨#[.slice (some ⟨bw, 3, none⟩) 2 2, .int .i64 n, .int .i64 ((0 : Nat) : Int), .pointer (some ⟨q1, 0, none⟩), .pointer (some ⟨q3, 0, none⟩), .pointer (some ⟨q4, 0, none⟩), undef, undef, undef, undef, undef, undef, undef, undef, undef, undef, undef, undef, undef, undef, undef, undef, undef, undef, undef, undef, undef, undef, undef, undef, undef, undef, undef, undef, undef], []⟩ [.code sidesRest]) (b :: cs)) x1:= by
   have hk:= @lon_iter A ty FinN n c1 bw b cs
   simp only [lonLb, sidesTail, sidesRest, Tryz.f63, Option.getD_some] at hk ⊢
   refine goes_run 60 (.inl rfl) rfl hB.ext.snug ?_
   u_c stepG_seq bd_rely hB
   u_c stepG_seq bd_rely hB
   u_reg bd_rely hB
   refine Goes.stop (fun w₁ h₁ => ?_)
   replace hB:= bd_rely hB h₁
   clear h₁
   refine ScS.read (v:= .int .i64 ((0 : Nat) : Int)) rfl hB.ext.snug rfl (by rfl) (by k_ne) (fun w₁ h₁ => ?_) ?_
   . have hq:= (bd_rely hB h₁).bx q4 _ (List.mem_cons_self)
     have hc:= hq.cell
     exact ⟨by go_simp, fun e he => by simp [go_sem, hc] at he; subst he; exact ⟨_, rfl, .inl hq.own⟩⟩
   walk_nrm
   refine goes_run 60 (.inl rfl) rfl hB.ext.snug ?_
   u_op bd_rely hB
   u_c stepG_region_end bd_rely hB
   u_cond true bd_rely hB
   u_c stepG_seq bd_rely hB
   u_c stepG_seq bd_rely hB
   u_reg bd_rely hB
   refine Goes.stop (fun w₁ h₁ => ?_)
   replace hB:= bd_rely hB h₁
   clear h₁
   refine ScS.read (v:= .slice (some ⟨bw, 3, none⟩) 2 2) rfl hB.ext.snug rfl (by rfl) (by k_ne) (fun w₁ h₁ => ?_) ?_
   . have hq:= (bd_rely hB h₁).bx q1 _ (.tail _ (.tail _ (.head _)))
     have hc:= hq.cell
     exact ⟨by go_simp, fun e he => by simp [go_sem, hc] at he; subst he; exact ⟨_, rfl, .inl hq.own⟩⟩
   walk_nrm
   refine goes_run 60 (.inl rfl) rfl hB.ext.snug ?_
   u_op bd_rely hB
   u_op bd_rely hB
   u_c stepG_region_end bd_rely hB
   u_c stepG_block bd_rely hB
   u_c stepG_loop bd_rely hB
   refine Goes.stop (fun w₁ h₁ => ?_)
   replace hB:= bd_rely hB h₁
   clear h₁
   refine hk (i:= 0) (q1:= q1) (q3:= q3) h1 ⟨giv_ext G0 hB.ext (fun e => e) (fun _ e => e.elim), (hB.bx q1 _ (.tail _ (.tail _ (.head _)))).bx, (hB.bx q3 _ (.tail _ (.head _))).bx, trivial⟩ n1 n3 ⟨rfl, rfl, rfl, rfl, rfl, rfl, rfl⟩ ?_
   intro a2 y1 c2 x2 b1' hA2 r1 E1 ec1 s1
   have hB1:= bd_rely hB r1
   have E1' : ExtX ty (· = ⟨bw, 3, none⟩) c w c2 x2:= (hB1.ext.mono (fun _ e => e.elim)).trans E1 (fun _ e _ => e)
   have Q1 : Nx w c2 x2 q1 _:= (hB1.bx q1 _ (.tail _ (.tail _ (.head _)))).ext E1 (fun e => n1 (congrArg Addr.block e))
   have Q3 : Nx w c2 x2 q3 _:= (hB1.bx q3 _ (.tail _ (.head _))).ext E1 (fun e => n3 (congrArg Addr.block e))
   have hk2:= @lon_iter A ty FinN n c2 bw b cs
   simp only [lonLb, sidesTail, sidesRest, Tryz.f63, Option.getD_some] at hk2
   refine hk2 (i:= 1) (q1:= q1) (q3:= q3) h2 ⟨giv_ext G1 E1' (by simp) (fun _ e => congrArg Addr.block e), Q1.bx, Q3.bx, trivial⟩ n1 n3 hA2 ?_
   intro a3 y2 c3 x3 b2' hA3 r2 E2 ec2 s2
   have hx:= @lon_exit ty FinN c3 bw b cs
   simp only [lonLb, sidesTail, sidesRest, Tryz.f63, Option.getD_some] at hx
   refine hx E2.snug hA3 (fun y r3 => ?_)
   have E2' : ExtX ty (· = ⟨bw, 4, none⟩) c2 y2 c3 y:= E2.go r3
   refine K c3 y b1' b2' ?_ ?_ ?_ ?_ ?_
   . exact ((E1'.go r2).mono (fun _ e => .inl e)).trans E2' (fun _ e _ => .inr e)
   . have e1:= r2.same ⟨bw, 3, none⟩ (.inl (E1'.own _ o3))
     exact (E2'.same ⟨bw, 3, none⟩ (.inl (E1'.own _ o3)) (by simp)).cell.trans (e1.cell.trans ec1)
   . exact (r3.same ⟨bw, 4, none⟩ (.inl (E2.own _ (E1'.own _ o4)))).cell.trans ec2
   . exact sd_ext (s1.same fun a ha => r2.same a (ha.1.2 a rfl)) E2' (fun _ e => congrArg Addr.block e)
   . exact s2.same fun a ha => r3.same a (ha.1.2 a rfl)
 exact hE
end
end Go.Proofs.YtddcbeeldjjmeaaGreat
namespace Go.Proofs.YtddcbeeldjjmeaaGreat
open Go Go.Conc Go.Eq Go.Nest Go.RowKit Go.Conc.Lib Go.ConcR.Gen
open Go.ConcR (DC0 WgAt)
open Go.ConcN (WgLive)
def vow (A : Nat -> Prop) (n : Nat) (c : Cfg) (w : World) (bw i : Nat) (t : Tr) : Vow where
 ok own rd x:= own ⟨bw, 3 + i, none⟩ /\ (∀ a, own a -> a = ⟨bw, 3 + i, none⟩ \/ w.heap.size <= a.block) /\ (∀ a, rd a -> c.rd a \/ c.own a \/ w.heap.size <= a.block) /\ (∀ a, own a \/ rd a -> a.block < x.heap.size) /\
   ∃ b', x.cell? ⟨bw, 3 + i, none⟩ = some (.pointer (ptr b')) /\ Sd nodeT (dgw n) (fun y => ((0 <= y /\ ¬ A y) /\ ∀ a : Addr, a.block = y -> own a \/ rd a) /\ y ≠ bw) x t b'
 keep:= fun hs hsz ⟨h1, h2, h3, h4, b', h5, h6⟩ => ⟨h1, h2, h3, fun a ha => Nat.lt_of_lt_of_le (h4 a ha) hsz, b', (hs _ (.inl h1)).cell.trans h5, h6.same fun a ha => hs a (ha.1.2 a rfl)⟩
structure Gp (c : Cfg) (w : World) (bw z : Nat) (L : List (Nat × Value)) (i : Nat) (kids : List Vow) (g : Cfg) (x : World) : Prop where
 cfg : g = { c with own:= g.own, rd:= g.rd, cur:= some z, ub:= i, kids:= kids }
 own : ∀ a, c.own a -> (1 <= i -> a ≠ ⟨bw, 3, none⟩) -> (2 <= i -> a ≠ ⟨bw, 4, none⟩) -> g.own a
 own' : ∀ a, g.own a -> c.own a \/ w.heap.size <= a.block
 rd : ∀ a, c.rd a -> g.rd a
 rd' : ∀ a, g.rd a -> c.rd a \/ c.own a \/ w.heap.size <= a.block
 size : w.heap.size <= x.heap.size
 same : ∀ a, c.own a \/ c.rd a -> ¬ Two bw a -> Same a w x
 s3 : i = 0 -> Same ⟨bw, 3, none⟩ w x
 s4 : i <= 1 -> Same ⟨bw, 4, none⟩ w x
 shape : ∀ b s, w.shape? b = some s -> x.shape? b = some s
 up : ∀ z v, c.up = some (z, v) -> WgLive link.tWg z w -> WgLive link.tWg z x
 os : x.os = w.os
 tape : x.tape = w.tape
 output : x.output = w.output
 snug : Snug g x
 live : WgLive link.tWg z x
 bx : ∀ q v, (q, v) ∈ L -> Bx g x q v /\ w.heap.size <= q
section
variable {c : Cfg} {w : World} {bw z : Nat} {L : List (Nat × Value)} {i : Nat} {kids : List Vow} {g g' : Cfg} {x x' : World}
theorem gp_ext {X : Addr -> Prop} (h : Gp c w bw z L i kids g x) (S : Snug c w) (o3 : c.own ⟨bw, 3, none⟩) (E : ExtX link.tWg X g x g' x') (hX : ∀ a, X a -> w.heap.size <= a.block /\ ∀ q v, (q, v) ∈ L -> a ≠ ⟨q, 0, none⟩) (o4 : c.own ⟨bw, 4, none⟩) : Gp c w bw z L i kids g' x':= by
 have hbw : bw < w.heap.size:= S.low ⟨bw, 3, none⟩ (.inl o3)
 have hno : ∀ a : Addr, a.block < w.heap.size -> ¬ X a:= fun a ha hx => by have:= (hX a hx).1; omega
 have hg:= h.cfg
 have hcur : g.cur = some z:= by rw [hg]
 have hup : g.up = c.up:= by rw [hg]
 refine ⟨?_, fun a ha h1 h2 => E.own a (h.own a ha h1 h2), fun a ha => ?_, fun a ha => E.rd a (h.rd a ha), fun a ha => ?_, Nat.le_trans h.size E.size, fun a ha hn => ?_, fun e => ?_, fun e => ?_,
   fun b s hs => E.shape b s (h.shape b s hs), fun z v hz hl => E.up z v (by rw [hup]; exact hz) (h.up z v hz hl), E.os.trans h.os, E.tape.trans h.tape, E.output.trans h.output, E.snug, E.cur z hcur h.live, fun q v hq => ?_⟩
 . rw [E.cfg, hg]
 . rcases E.own' a ha with h1 | h1
   . exact h.own' a h1
   . exact .inr (Nat.le_trans h.size h1)
 . rcases E.rd' a ha with h1 | h1 | h1
   . exact h.rd' a h1
   . exact (h.own' a h1).elim (fun x => .inr (.inl x)) fun x => .inr (.inr x)
   . exact .inr (.inr (Nat.le_trans h.size h1))
 . have hlow:= S.low a ha
   refine (h.same a ha hn).trans (E.same a ?_ (hno a hlow))
   rcases ha with ha | ha
   . exact .inl (h.own a ha (fun _ e => hn (.inl e)) (fun _ e => hn (.inr e)))
   . exact .inr (h.rd a ha)
 . exact (h.s3 e).trans (E.same _ (.inl (h.own _ o3 (by omega) (by omega))) (hno _ hbw))
 . exact (h.s4 e).trans (E.same _ (.inl (h.own _ o4 (fun _ => by simp) (by omega))) (hno _ hbw))
 . obtain ⟨⟨h1, h2⟩, h3⟩:= h.bx q v hq
   exact ⟨⟨h1.imp (E.own _) (E.rd _), (E.same _ h1 fun hx => (hX _ hx).2 q v hq rfl).cell.trans h2⟩, h3⟩
theorem gp_rely (h : Gp c w bw z L i kids g x) (S : Snug c w) (o3 : c.own ⟨bw, 3, none⟩) (o4 : c.own ⟨bw, 4, none⟩) (r : Rely link.tWg g x x') : Gp c w bw z L i kids g x' :=
 gp_ext h S o3 ((ExtX.refl (X:= fun _ => False) h.snug).go r) (fun _ e => e.elim) o4
theorem ScS.group {P : Program} {FinN : Perm -> Perm -> Goroutine -> World -> Prop} {b : Frame} {a : Act} {k : List Item} {cs : List Frame} {ops : Array Oper} {j : Nat} {rest : List Nat} {o : Oper} {s : Stg}
   (hs : s.early = true) (S : Snug c w) (hC : Calm c) (o3 : c.own ⟨bw, 3, none⟩) (o4 : c.own ⟨bw, 4, none⟩) {c1 : Cfg} {x : World} (B : Bd link.tWg c w L c1 x) (ho : ops[j]? = some o) (hw : Region.wanted o (yielded ops a.tmps) = true) (hk : b.kind ≠ .early)
   (h : ∀ w₁ : World, (execOp a.eval o).run P w₁ = .ok (.value (.pointer (some ⟨w₁.heap.size, 0, none⟩))) (fresh w₁ (Go.ConcR.wgBlock link.tWg 0 0)) /\ ∀ e ∈ (execOp a.eval o).events P w₁ #[], False)
   (K : ∀ z g x', (∀ q v, (q, v) ∈ L -> q ≠ z) -> Gp c w bw z L 0 [] g x' -> ScS link.tWg P FinN s g (G (b.at (a.put o.dst (.pointer (some ⟨z, 0, none⟩))) (.inRegion ops rest :: k)) cs) x') :
   ScS link.tWg P FinN s c1 (G (b.at a (.inRegion ops (j :: rest) :: k)) cs) x:= by
 refine ScS.val hs ho hw hk fun w₁ h₁ => ⟨_, _, { c1 with cur:= some w₁.heap.size }, (h w₁).1, fun es hes => ?_, ?_⟩
 . have B1:= bd_rely B h₁
   have S1:= B1.ext.snug
   have hes2 : es = #[]:= Array.eq_empty_iff_forall_not_mem.2 fun e he => (h w₁).2 e (hes e he)
   subst hes2
   have hsz : w₁.heap.size < (fresh w₁ (Go.ConcR.wgBlock link.tWg 0 0)).heap.size:= by rw [fresh_size]; omega
   have hcfg:= B.ext.cfg
   have hcur : c1.cur = none:= by rw [hcfg]; exact hC.cur
   have hpend : c1.pend = false:= by rw [hcfg]; exact hC.pend
   have hkids : c1.kids = []:= by rw [hcfg]; exact hC.kids
   have N:= ord_new (ty:= link.tWg) (ob:= Go.ConcR.wgBlock link.tWg 0 0) (es:= #[]) S1 (fun e he => by simp at he)
   exact ⟨N.1.size, N.1.out, N.1.cell, N.1.shape, rfl, rfl, rfl, fun e he => by simp at he, fun j e x hj => by simp at hj, rfl, rfl, fun y hy => ⟨.inl hy, Nat.lt_trans (S1.low y (.inl hy)) hsz⟩, fun y hy => ⟨.inl hy, Nat.lt_trans (S1.low y (.inr hy)) hsz⟩, rfl, rfl, rfl, rfl,
     .inr ⟨hcur, w₁.heap.size, rfl, Nat.le_refl _, hsz, fresh_new, hpend, hkids, fun y hy e => Nat.lt_irrefl _ (e ▸ S1.low y hy)⟩⟩
 . have B1:= bd_rely B h₁
   have S1:= B1.ext.snug
   have hsz : w₁.heap.size < (fresh w₁ (Go.ConcR.wgBlock link.tWg 0 0)).heap.size:= by rw [fresh_size]; omega
   have hbw : bw < w.heap.size:= S.low ⟨bw, 3, none⟩ (.inl o3)
   have hcfg:= B1.ext.cfg
   have hold : ∀ a : Addr, a.block < w₁.heap.size -> Same a w₁ (fresh w₁ (Go.ConcR.wgBlock link.tWg 0 0)):= fun a ha => same_of_heap (fresh_old ha)
   have hlow2 : ∀ a, c.own a \/ c.rd a -> a.block < w₁.heap.size:= fun a ha => Nat.lt_of_lt_of_le (S.low a ha) B1.ext.size
   refine K _ _ _ (fun q v hq e => Nat.lt_irrefl _ (e ▸ S1.low ⟨q, 0, none⟩ (.inl (B1.bx q v hq).own))) ⟨?_, fun a ha _ _ => B1.ext.own a ha, B1.ext.own', B1.ext.rd, B1.ext.rd', Nat.le_trans B1.ext.size (Nat.le_of_lt hsz), fun a ha _ => (B1.ext.same a ha (fun e => e)).trans (hold a (hlow2 a ha)),
     fun _ => (B1.ext.same _ (.inl o3) (fun e => e)).trans (hold _ (hlow2 _ (.inl o3))), fun _ => (B1.ext.same _ (.inl o4) (fun e => e)).trans (hold _ (hlow2 _ (.inl o4))), fun b s hs => ?_, fun z v hz hl => ?_, B1.ext.os, B1.ext.tape, B1.ext.output, ⟨fun a ha => Nat.lt_trans (S1.low a ha) hsz, fun z hz => ?_, fun z v hz => ?_⟩, ⟨0, 0, fresh_new⟩, fun q v hq => ?_⟩
   . rw [hcfg]
     show _ = { c with own:= c1.own, rd:= c1.rd, cur:= some w₁.heap.size, ub:= 0, kids:= [] }
     have h1:= hC.ub
     have h2:= hC.kids
     cases c
     simp only at h1 h2
     subst h1 h2
     rfl
   . have h1:= B1.ext.shape b s hs
     have hlt : b < w₁.heap.size:= by
       rcases Nat.lt_or_ge b w₁.heap.size with h2 | h2
       . exact h2
       . simp [World.shape?, Array.getElem?_eq_none h2] at h1
     simp only [World.shape?, fresh_old hlt]; exact h1
   . obtain ⟨st, sm, h1⟩:= B1.ext.up z v hz hl
     exact ⟨st, sm, (fresh_old (S1.up z v (by rw [hcfg]; exact hz)).1).trans h1⟩
   . cases hz
     exact ⟨hsz, fun a e ha => Nat.lt_irrefl _ (e ▸ S1.low a ha)⟩
   . exact ⟨Nat.lt_trans (S1.up z v hz).1 hsz, (S1.up z v hz).2⟩
   . have hq2:= B1.bx q v hq
     exact ⟨⟨.inl hq2.own, (hold ⟨q, 0, none⟩ (S1.low ⟨q, 0, none⟩ (.inl hq2.own))).cell.trans hq2.cell⟩, hq2.new⟩
end
section
variable {A : Nat -> Prop} {n : Nat} {c : Cfg} {w : World} {bw z : Nat} {i : Nat} {kids : List Vow} {g g' : Cfg} {x x' : World} {q1 q2 q3 q4 : Nat} {v1 v3 v4 : Value} {t : Tr} {bs : Nat} {V : Vow}
def boxP (q1 q3 q4 : Nat) (a : Addr) : Prop:= a = ⟨q1, 0, none⟩ \/ a = ⟨q3, 0, none⟩ \/ a = ⟨q4, 0, none⟩
def oP (bw i q2 : Nat) (a : Addr) : Prop:= a = ⟨bw, 3 + i, none⟩ \/ a = ⟨q2, 0, none⟩
def rP (g : Cfg) (bw i q1 q2 q3 q4 : Nat) (a : Addr) : Prop:= ((g.rd a /\ ¬ g.own a) \/ boxP q1 q3 q4 a) /\ ¬ oP bw i q2 a
def oP' (g : Cfg) (bw i q1 q2 q3 q4 : Nat) (a : Addr) : Prop:= g.own a /\ ¬ oP bw i q2 a /\ ¬ boxP q1 q3 q4 a
def rP' (g : Cfg) (bw i q1 q2 q3 q4 : Nat) (a : Addr) : Prop:= (g.rd a \/ boxP q1 q3 q4 a) /\ ¬ oP bw i q2 a
abbrev Lb (q1 q3 q4 : Nat) (v1 v3 v4 : Value) : List (Nat × Value):= [(q4, v4), (q3, v3), (q1, v1)]
structure At (c : Cfg) (w : World) (bw q1 q2 q3 q4 : Nat) : Prop where
 snug : Snug c w
 calm : Calm c
 o3 : c.own ⟨bw, 3, none⟩
 o4 : c.own ⟨bw, 4, none⟩
 r3 : ¬ c.rd ⟨bw, 3, none⟩
 r4 : ¬ c.rd ⟨bw, 4, none⟩
 n1 : q1 ≠ q2
 n3 : q3 ≠ q2
 n4 : q4 ≠ q2
 new : w.heap.size <= q2
 new1 : w.heap.size <= q1
 new3 : w.heap.size <= q3
 new4 : w.heap.size <= q4
theorem At.low (h : At c w bw q1 q2 q3 q4) : bw < w.heap.size:= h.snug.low ⟨bw, 3, none⟩ (.inl h.o3)
theorem At.box (h : At c w bw q1 q2 q3 q4) {a : Addr} (ha : boxP q1 q3 q4 a) : w.heap.size <= a.block:= by
 rcases ha with rfl | rfl | rfl
 . exact h.new1
 . exact h.new3
 . exact h.new4
theorem At.noBox (h : At c w bw q1 q2 q3 q4) {a : Addr} (ha : a.block < w.heap.size) : ¬ boxP q1 q3 q4 a:= fun e => Nat.lt_irrefl _ (Nat.lt_of_lt_of_le ha (h.box e))
theorem At.two (i2 : i = 0 \/ i = 1) {a : Addr} (e : a = ⟨bw, 3 + i, none⟩) : (i = 0 /\ a = ⟨bw, 3, none⟩) \/ (i = 1 /\ a = ⟨bw, 4, none⟩):= by
 rcases i2 with rfl | rfl
 . exact .inl ⟨rfl, e⟩
 . exact .inr ⟨rfl, e⟩
theorem At.own (h : At c w bw q1 q2 q3 q4) (i2 : i = 0 \/ i = 1) : c.own ⟨bw, 3 + i, none⟩ /\ ¬ c.rd ⟨bw, 3 + i, none⟩:= by
 rcases i2 with rfl | rfl
 . exact ⟨h.o3, h.r3⟩
 . exact ⟨h.o4, h.r4⟩
theorem box_bx (h : Gp c w bw z (Lb q1 q3 q4 v1 v3 v4) i kids g x) {a : Addr} (ha : boxP q1 q3 q4 a) : g.own a \/ g.rd a:= by
 rcases ha with rfl | rfl | rfl
 . exact (h.bx q1 v1 (.tail _ (.tail _ (.head _)))).1.1
 . exact (h.bx q3 v3 (.tail _ (.head _))).1.1
 . exact (h.bx q4 v4 (.head _)).1.1
theorem spawn_perms (T : At c w bw q1 q2 q3 q4) (i2 : i = 0 \/ i = 1) (h : Gp c w bw z (Lb q1 q3 q4 v1 v3 v4) i kids g x) (hq2 : g.own ⟨q2, 0, none⟩) :
   (∀ a, oP bw i q2 a -> g.own a) /\ (∀ a, oP' g bw i q1 q2 q3 q4 a -> g.own a /\ ¬ oP bw i q2 a /\ ¬ rP g bw i q1 q2 q3 q4 a) /\ (∀ a, rP g bw i q1 q2 q3 q4 a -> (g.own a \/ g.rd a) /\ ¬ oP' g bw i q1 q2 q3 q4 a) /\ (∀ a, rP' g bw i q1 q2 q3 q4 a -> (g.own a \/ g.rd a) /\ ¬ oP bw i q2 a):= by
 refine ⟨fun a ha => ?_, fun a ha => ⟨ha.1, ha.2.1, fun hr => ?_⟩, fun a ha => ⟨?_, fun ho => ?_⟩, fun a ha => ⟨?_, ha.2⟩⟩
 . rcases ha with e | rfl
   . rcases At.two i2 e with ⟨rfl, rfl⟩ | ⟨rfl, rfl⟩
     . exact h.own _ T.o3 (by omega) (by omega)
     . exact h.own _ T.o4 (fun _ => by simp) (by omega)
   . exact hq2
 . exact hr.1.elim (fun e => e.2 ha.1) ha.2.2
 . exact ha.1.elim (fun e => .inr e.1) (box_bx h)
 . exact ha.1.elim (fun e => e.2 ho.1) ho.2.2
 . exact ha.1.elim .inr (box_bx h)
abbrev parC (g : Cfg) (V : Vow) (bw i q1 q2 q3 q4 : Nat) : Cfg:= { (cf g 0 true i) with own:= oP' g bw i q1 q2 q3 q4, rd:= rP' g bw i q1 q2 q3 q4, pend:= false, ub:= (cf g 0 true i).ub + 1, kids:= V :: (cf g 0 true i).kids }
abbrev kidC (g : Cfg) (z : Nat) (V : Vow) (bw i q1 q2 q3 q4 : Nat) : Cfg:= { main:= false, own:= oP bw i q2, rd:= rP g bw i q1 q2 q3 q4, deaf:= 0, cur:= none, pend:= false, ub:= 0, kids:= [], up:= some (z, V) }
theorem gp_spawn (T : At c w bw q1 q2 q3 q4) (i2 : i = 0 \/ i = 1) (h : Gp c w bw z (Lb q1 q3 q4 v1 v3 v4) i kids g x) (hq2 : g.own ⟨q2, 0, none⟩) : Gp c w bw z (Lb q1 q3 q4 v1 v3 v4) (i + 1) (V :: kids) (parC g V bw i q1 q2 q3 q4) x:= by
 obtain ⟨p1, p2, p3, p4⟩:= spawn_perms T i2 h hq2
 have hg:= h.cfg
 have hnew : ∀ a : Addr, a.block < w.heap.size -> a ≠ ⟨q2, 0, none⟩:= fun a ha e => by subst e; exact Nat.lt_irrefl _ (Nat.lt_of_lt_of_le ha T.new)
 have hsub : ∀ a, oP' g bw i q1 q2 q3 q4 a \/ rP' g bw i q1 q2 q3 q4 a -> g.own a \/ g.rd a:= fun a ha => ha.elim (fun e => .inl (p2 a e).1) fun e => (p4 a e).1
 refine ⟨?_, fun a ha h1 h2 => ⟨h.own a ha (fun hi => h1 (by omega)) (fun hi => h2 (by omega)), fun e => ?_, T.noBox (T.snug.low a (.inl ha))⟩, fun a ha => h.own' a ha.1, fun a ha => ⟨.inl (h.rd a ha), fun e => ?_⟩, fun a ha => ?_, h.size, h.same, fun e => (by omega), fun e => h.s4 (by omega), h.shape, h.up, h.os, h.tape, h.output,
   ⟨fun a ha => h.snug.low a (hsub a ha), fun z' hz => ?_, fun z' v hz => ?_⟩, h.live, fun q v hq => ?_⟩
 . have h1:= T.calm.deaf
   have h2:= T.calm.pend
   have h3 : g.kids = kids:= by rw [hg]
   have h4 : g.main = c.main /\ g.up = c.up /\ g.cur = some z:= by rw [hg]; exact ⟨rfl, rfl, rfl⟩
   obtain ⟨h4, h5, h6⟩:= h4
   cases c
   cases g
   simp only at h1 h2 h3 h4 h5 h6
   subst h1 h2 h3 h4 h5 h6
   rfl
 . rcases e with e | e
   . rcases At.two i2 e with ⟨rfl, e⟩ | ⟨rfl, e⟩
     . exact h1 (by omega) e
     . exact h2 (by omega) e
   . exact hnew a (T.snug.low a (.inl ha)) e
 . rcases e with e | e
   . subst e; exact (T.own i2).2 ha
   . exact hnew a (T.snug.low a (.inr ha)) e
 . exact ha.1.elim (h.rd' a) fun e => .inr (.inr (T.box e))
 . have hc : g.cur = some z':= hz
   exact ⟨(h.snug.cur z' hc).1, fun a e ha => (h.snug.cur z' hc).2 a e (hsub a ha)⟩
 . have hc : g.up = some (z', v):= hz
   exact ⟨(h.snug.up z' v hc).1, fun a e ha => (h.snug.up z' v hc).2 a e (hsub a ha)⟩
 . have hB:= h.bx q v hq
   refine ⟨⟨.inr ⟨.inr ?_, fun e => ?_⟩, hB.1.2⟩, hB.2⟩
   . rcases hq with _ | ⟨_, _ | ⟨_, _ | ⟨_, hq⟩⟩⟩
     . exact .inr (.inr rfl)
     . exact .inr (.inl rfl)
     . exact .inl rfl
     . cases hq
   . have hqq : q ≠ q2:= by
       rcases hq with _ | ⟨_, _ | ⟨_, _ | ⟨_, hq⟩⟩⟩
       . exact T.n4
       . exact T.n3
       . exact T.n1
       . cases hq
     rcases e with e | e
     . have:= congrArg Addr.block e
       have hl:= T.low
       simp only at this
       omega
     . exact hqq (congrArg Addr.block e)
theorem Giv.trees (T : At c w bw q1 q2 q3 q4) (h : Gp c w bw z (Lb q1 q3 q4 v1 v3 v4) i kids g x) (hN : Nd nodeT (dgw n) (Ofr A c bw) w t bs) : Nd nodeT (dgw n) (Ofr A (kidC g z V bw i q1 q2 q3 q4) bw) x t bs:= by
 refine (hN.same fun a ha => h.same a (ha.1.2 a rfl) fun e => ha.2 (by rcases e with rfl | rfl <;> rfl)).mono fun y hy => ?_
 have hrd : ∀ a : Addr, a.block = y -> c.rd a /\ ¬ c.own a:= hy.1.1.2
 have hlow : ∀ a : Addr, a.block = y -> a.block < w.heap.size:= fun a e => T.snug.low a (.inr (hrd a e).1)
 have hno : ∀ a : Addr, a.block = y -> ¬ oP bw i q2 a:= fun a e ho => by
   rcases ho with ho | ho
   . exact hy.2 (e.symm.trans (congrArg Addr.block ho))
   . have h1:= hlow a e
     have h2:= congrArg Addr.block ho
     have h3:= T.new
     simp only at h2
     omega
 have hgr : ∀ a : Addr, a.block = y -> rP g bw i q1 q2 q3 q4 a:= fun a e => ⟨.inl ⟨h.rd a (hrd a e).1, fun ho => (h.own' a ho).elim (hrd a e).2 fun hn => Nat.lt_irrefl _ (Nat.lt_of_lt_of_le (hlow a e) hn)⟩, hno a e⟩
 exact ⟨⟨⟨hy.1.1.1, fun a e => ⟨hgr a e, hno a e⟩⟩, fun a e => .inr (hgr a e)⟩, hy.2⟩
theorem kid_kf {forks : Nat} (T : At c w bw q1 q2 q3 q4) (i2 : i = 0 \/ i = 1) (hA : ∀ y, A y -> y < w.heap.size) (h : Gp c w bw z (Lb q1 q3 q4 (.slice (some ⟨bw, 3, none⟩) 2 2) (.int .i64 n) (.int .i64 ((forks + 1 : Nat) : Int))) i kids g x) (hq2 : g.own ⟨q2, 0, none⟩) (hc2 : x.cell? ⟨q2, 0, none⟩ = some (.int .i64 i))
   (hcell : w.cell? ⟨bw, 3 + i, none⟩ = some (.pointer (ptr bs))) (hthaw : w.frozen? ⟨bw, 3 + i, none⟩ = false) (hN : Nd nodeT (dgw n) (Ofr A c bw) w t bs) :
   Kf A n (kidC g z V bw i q1 q2 q3 q4) bw i t bs q1 q2 q3 q4 forks x:= by
 obtain ⟨p1, p2, p3, p4⟩:= spawn_perms T i2 h hq2
 have hg:= h.cfg
 have hcur : g.cur = some z:= by rw [hg]
 have hl:= T.low
 have hsame : Same ⟨bw, 3 + i, none⟩ w x:= by
   rcases i2 with rfl | rfl
   . exact h.s3 rfl
   . exact h.s4 (by omega)
 have hbx : ∀ q v, (q, v) ∈ Lb q1 q3 q4 (.slice (some ⟨bw, 3, none⟩) 2 2) (.int .i64 n) (.int .i64 ((forks + 1 : Nat) : Int)) -> boxP q1 q3 q4 ⟨q, 0, none⟩ -> q ≠ q2 -> Bx (kidC g z V bw i q1 q2 q3 q4) x q v:= fun q v hq hb hn => by
   refine ⟨.inr ⟨.inr hb, fun e => ?_⟩, (h.bx q v hq).1.2⟩
   have hnew:= (h.bx q v hq).2
   rcases e with e | e
   . have:= congrArg Addr.block e
     simp only at this
     omega
   . exact hn (congrArg Addr.block e)
 refine ⟨⟨⟨rfl, rfl, rfl, rfl, rfl⟩, ⟨fun a ha => h.snug.low a (ha.elim (fun e => .inl (p1 a e)) fun e => (p3 a e).1), fun z' hz => (by cases hz), fun z' v hz => ?_⟩, fun y hy => Nat.lt_of_lt_of_le (hA y hy) h.size, .inl rfl, hsame.cell.trans hcell, hsame.frozen.trans hthaw, Giv.trees T h hN, i2⟩,
   hbx q1 _ (.tail _ (.tail _ (.head _))) (.inl rfl) T.n1, ⟨.inl (.inr rfl), hc2⟩, hbx q3 _ (.tail _ (.head _)) (.inr (.inl rfl)) T.n3, hbx q4 _ (.head _) (.inr (.inr rfl)) T.n4⟩
 cases hz
 exact ⟨(h.snug.cur z hcur).1, fun a e ha => (h.snug.cur z hcur).2 a e (ha.elim (fun e => .inl (p1 a e)) fun e => (p3 a e).1)⟩
theorem kid_vow (T : At c w bw q1 q2 q3 q4) (h : Gp c w bw z (Lb q1 q3 q4 v1 v3 v4) i kids g x) :
   ∀ w1, Rely link.tWg (kidC g z V bw i q1 q2 q3 q4) x w1 -> ∀ c' w' b', ExtX link.tWg (· = ⟨bw, 3 + i, none⟩) (kidC g z V bw i q1 q2 q3 q4) w1 c' w' -> w'.cell? ⟨bw, 3 + i, none⟩ = some (.pointer (ptr b')) -> Sd nodeT (dgw n) (Off A c' bw) w' t b' -> (i = 0 \/ i = 1) -> (vow A n c w bw i t).ok c'.own c'.rd w':= by
 intro w1 r c' w' b' E hc hS i2
 have hsz : w.heap.size <= w1.heap.size:= Nat.le_trans h.size r.size
 have ho : ∀ a, oP bw i q2 a -> a = ⟨bw, 3 + i, none⟩ \/ w.heap.size <= a.block:= fun a e => e.imp id fun e => by subst e; exact T.new
 refine ⟨E.own _ (.inl rfl), fun a ha => ?_, fun a ha => ?_, E.snug.low, b', hc, hS.mono fun y hy => ⟨⟨hy.1.1, hy.1.2⟩, hy.2⟩⟩
 . rcases E.own' a ha with e | e
   . exact ho a e
   . exact .inr (Nat.le_trans hsz e)
 . rcases E.rd' a ha with e | e | e
   . exact e.1.elim (fun e => h.rd' a e.1) fun e => .inr (.inr (T.box e))
   . rcases ho a e with e | e
     . subst e; exact .inr (.inl (T.own i2).1)
     . exact .inr (.inr e)
   . exact .inr (.inr (Nat.le_trans hsz e))
end
end Go.Proofs.YtddcbeeldjjmeaaGreat
namespace Go.Proofs.YtddcbeeldjjmeaaGreat
open Go Go.Conc Go.Eq Go.Nest Go.RowKit Go.Conc.Lib Go.ConcR.Gen Go.ConcN.Gen
open Go.ConcR (DC0 WgAt)
open Go.ConcN (WgLive)
noncomputable def kidLb : Code:= match sidesTail with
 | .seq _ (.seq (.seq _ (.block _ (.loop l))) _) => l
 | _ => .skip
noncomputable def waitR : Code:= match sidesTail with
 | .seq _ (.seq _ r) => r
 | _ => .skip
section
variable {A : Nat -> Prop} {n : Nat} {c : Cfg} {w : World} {bw z : Nat} {i : Nat} {kids : List Vow} {g : Cfg} {x : World} {q1 q2 q3 q4 : Nat} {t : Tr} {bs : Nat} {L : List (Nat × Value)}
theorem ScS.boxG {P : Program} {FinN : Perm -> Perm -> Goroutine -> World -> Prop} {s : Stg} {b : Frame} {a : Act} {k : List Item} {cs : List Frame} {ops : Array Oper} {j : Nat} {rest : List Nat} {o : Oper} {v : Value} {tt : TypeId} (hs : s.early = true) (S : Snug c w) (o3 : c.own ⟨bw, 3, none⟩) (o4 : c.own ⟨bw, 4, none⟩)
   (B : Gp c w bw z L i kids g x) (ho : ops[j]? = some o) (hw : Region.wanted o (yielded ops a.tmps) = true) (hk : b.kind ≠ .early)
   (h : ∀ w₁ : World, (execOp a.eval o).run P w₁ = .ok (.value (.pointer (some ⟨w₁.heap.size, 0, none⟩))) (fresh w₁ (.cells #[v] tt)) /\ ∀ e ∈ (execOp a.eval o).events P w₁ #[], False)
   (K : ∀ q g' x', (∀ q' v', (q', v') ∈ L -> q' ≠ q) -> Gp c w bw z L i kids g' x' -> Nx w g' x' q v -> ScS link.tWg P FinN s g' (G (b.at (a.put o.dst (.pointer (some ⟨q, 0, none⟩))) (.inRegion ops rest :: k)) cs) x') :
   ScS link.tWg P FinN s g (G (b.at a (.inRegion ops (j :: rest) :: k)) cs) x:= by
 refine ScS.make (v:= fun w₁ => .pointer (some ⟨w₁.heap.size, 0, none⟩)) (ob:= fun _ => .cells #[v] tt) hs B.snug ho hw hk (fun w₁ h₁ => ⟨(h w₁).1, (h w₁).2, fun S2 => ?_⟩)
 have B1:= gp_rely B S o3 o4 h₁
 have S1:= B1.snug
 have E:= Ext.fresh (ty:= link.tWg) S1 S2
 exact K _ _ _ (fun q' v' hq e => Nat.lt_irrefl _ (e ▸ S1.low ⟨q', 0, none⟩ (B1.bx _ _ hq).1.1)) (gp_ext B1 S o3 (E.x (X:= fun _ => False)) (fun _ e => e.elim) o4)
   ⟨fresh_own rfl, by simp only [World.cell?, fresh_new]; simp, by simp only [World.frozen?, fresh_new]; simp, B1.size⟩
theorem ScS.goStmt {ty : TypeId} {P : Program} {FinN : Perm -> Perm -> Goroutine -> World -> Prop} {c : Cfg} {w : World} {b : Frame} {a : Act} {k : List Item} {cs : List Frame} {ops : Array Oper} {j : Nat} {rest : List Nat} {op : Oper} {d : Deferred} {f : Fn} {cc : Array Value} {z : Nat}
   (ho : ops[j]? = some op) (hw : Region.wanted op (yielded ops a.tmps) = true) (hk : b.kind ≠ .early) (hr : ∀ w, (execOp a.eval op).run P w = .ok (.spawn d) w) (hd : d.target = .fn f cc) (he : ∀ w, (execOp a.eval op).events P w #[] = #[])
   (hp : c.pend = true) (hd0 : c.deaf = 0) (hkids : c.kids.length < 1000) (hz : c.cur = some z)
   (h : ∀ w₁, Rely ty c w w₁ -> ∃ (o r o' r' : Perm) (v : Vow), ((∀ a, o a -> c.own a) /\ (∀ a, o' a -> c.own a /\ ¬ o a /\ ¬ r a) /\ (∀ a, r a -> (c.own a \/ c.rd a) /\ ¬ o' a) /\ (∀ a, r' a -> (c.own a \/ c.rd a) /\ ¬ o a)) /\
       ScS ty P FinN .work { main:= false, own:= o, rd:= r, deaf:= 0, cur:= none, pend:= false, ub:= 0, kids:= [], up:= some (z, v) } (born P d) w₁ /\
       ScS ty P FinN .work { c with own:= o', rd:= r', pend:= false, ub:= c.ub + 1, kids:= v :: c.kids } (G (b.at (a.put op.dst undef) (.inRegion ops rest :: k)) cs) w₁) :
   ScS ty P FinN .work c (G (b.at a (.inRegion ops (j :: rest) :: k)) cs) w:= by
 refine ScS.spawn rfl rfl hp hd0 hkids hz fun w₁ h₁ => ?_
 obtain ⟨o, r, o', r', v, ⟨p1, p2, p3, p4⟩, h5, h6⟩:= h w₁ h₁
 exact ⟨_, born P d, o, r, o', r', v, by rw [stepG_spawn ho hw hk (hr w₁) hd]; unfold listed; rw [he w₁, seen_none], rfl, p1, p2, p3, p4, h5, h6⟩
structure Ag (q1 q3 q4 z : Nat) (i : Nat) (a : Act) : Prop where
 ts : a.tmps.size = 35
 df : a.defers = []
 t3 : a.tmps.getD 3 undef = .pointer (some ⟨q1, 0, none⟩)
 t4 : a.tmps.getD 4 undef = .pointer (some ⟨q3, 0, none⟩)
 t5 : a.tmps.getD 5 undef = .pointer (some ⟨q4, 0, none⟩)
 t8 : a.tmps.getD 8 undef = .pointer (some ⟨z, 0, none⟩)
 t27 : a.tmps.getD 27 undef = .int .i64 2
 t28 : a.tmps.getD 28 undef = .int .i64 i
theorem cf_calm (hC : Calm c) (h : Gp c w bw z L i kids g x) : cf g 0 false i = g:= by
 have hg:= h.cfg
 have h1:= hC.deaf
 have h2:= hC.pend
 cases g
 cases c
 simp only at h1 h2
 subst h1 h2
 simp only [Cfg.mk.injEq, true_and] at hg
 obtain ⟨-, rfl, -, rfl, rfl, -⟩:= hg
 rfl
section
variable {FinN : Perm -> Perm -> Goroutine -> World -> Prop} {b : Frame} {cs : List Frame} {forks : Nat}
abbrev Lq (bw n forks q1 q3 q4 : Nat) : List (Nat × Value):= Lb q1 q3 q4 (.slice (some ⟨bw, 3, none⟩) 2 2) (.int .i64 n) (.int .i64 ((forks + 1 : Nat) : Int))
set_option maxRecDepth 20000 in
set_option maxHeartbeats 8000000 in
theorem kid_iter {a : Act} (hseal : SealOk link.tWg FinN n forks t) (hforks : forks = 0 \/ forks = 1 \/ forks = 2) (hT : ∀ q2, (q1 ≠ q2) -> (q3 ≠ q2) -> (q4 ≠ q2) -> w.heap.size <= q2 -> At c w bw q1 q2 q3 q4) (S : Snug c w) (hC : Calm c) (o3 : c.own ⟨bw, 3, none⟩) (o4 : c.own ⟨bw, 4, none⟩) (i2 : i = 0 \/ i = 1) (hA : ∀ y, A y -> y < w.heap.size)
   (hcell : w.cell? ⟨bw, 3 + i, none⟩ = some (.pointer (ptr bs))) (hthaw : w.frozen? ⟨bw, 3 + i, none⟩ = false) (hN : Nd nodeT (dgw n) (Ofr A c bw) w t bs) (hk : kids.length < 1000)
   (hG : Gp c w bw z (Lq bw n forks q1 q3 q4) i kids g x) (ha : Ag q1 q3 q4 z i a)
   (K : ∀ a' g' x', Ag q1 q3 q4 z (i + 1) a' -> Gp c w bw z (Lq bw n forks q1 q3 q4) (i + 1) (vow A n c w bw i t :: kids) g' x' ->
     ScS link.tWg Tryz.prog FinN .work g' (G ((base 63).at a' [.code kidLb, .inLoop kidLb, .inBlock 2, .code waitR]) (b :: cs)) x') :
   ScS link.tWg Tryz.prog FinN .work g (G ((base 63).at a [.code kidLb, .inLoop kidLb, .inBlock 2, .code waitR]) (b :: cs)) x:= by
 obtain ⟨T, ds⟩:= a
 obtain ⟨ts, df, t3, t4, t5, t8, t27, t28⟩:= ha
 replace df : ds = []:= df
 subst df
 obtain ⟨v0, v1, v2, v3, v4, v5, v6, v7, v8, v9, v10, v11, v12, v13, v14, v15, v16, v17, v18, v19, v20, v21, v22, v23, v24, v25, v26, v27, v28, v29, v30, v31, v32, v33, v34, rfl⟩:= array35 T ts
 simp only []
 simp only [Array.getD_eq_getD_getElem?, List.getElem?_toArray, List.getElem?_cons_succ, List.getElem?_cons_zero, Option.getD_some] at t3 t4 t5 t8 t27 t28
 subst t3 t4 t5 t8 t27 t28
 have rl : ∀ {y y' : World}, Gp c w bw z (Lq bw n forks q1 q3 q4) i kids g y -> Rely link.tWg g y y' -> Gp c w bw z (Lq bw n forks q1 q3 q4) i kids g y':= fun h r => gp_rely h S o3 o4 r
 have hE : ScS link.tWg Tryz.prog FinN .work g (G ((base 63).at ⟨#[v0, v1, v2, .pointer (some ⟨q1, 0, none⟩), .pointer (some ⟨q3, 0, none⟩), .pointer (some ⟨q4, 0, none⟩), v6, v7, .pointer (some ⟨z, 0, none⟩), v9, v10, v11, v12, v13, v14, v15, v16, v17, v18, v19, v20, v21, v22, v23, v24, v25, v26, .int .i64 2, .int .i64 i, v29, v30, v31, v32, v33, v34], []⟩ [.code kidLb, .inLoop kidLb, .inBlock 2, .code waitR]) (b :: cs)) x:= by
   simp only [kidLb, waitR, sidesTail, sidesRest, Tryz.f63, Option.getD_some] at K ⊢
   refine goes_run 60 (.inl rfl) rfl hG.snug ?_
   u_c stepG_seq rl hG
   u_reg rl hG
   u_op rl hG
   u_c stepG_region_end rl hG
   u_c stepG_seq rl hG
   have hlt : ((i : Int) < 2):= by omega
   simp only [hlt, decide_true]
   u_cond true rl hG
   u_c stepG_skip rl hG
   u_c stepG_seq rl hG
   u_c stepG_block rl hG
   u_c stepG_seq rl hG
   u_reg rl hG
   u_op rl hG
   refine Goes.stop (fun w₁ h₁ => ?_)
   replace hG:= rl hG h₁
   clear h₁
   refine ScS.boxG (v:= .int .i64 0) (tt:= 3) rfl S o3 o4 hG rfl (by rfl) (by k_ne) (fun w₁ => ⟨by go_simp <;> rfl, fun e he => by simp [go_sem, Hush.zeroValue _ _] at he⟩) ?_
   clear hG rl
   intro q2 g2 x2 hq2 hG hN2
   walk_nrm
   refine ScS.write (x:= ⟨q2, 0, none⟩) (v:= .int .i64 i) rfl hG.snug hN2.own rfl (by rfl) (by k_ne) (fun w₁ h₁ => ?_)
   have hNx:= hN2.rely h₁
   have hGx:= gp_rely hG S o3 o4 h₁
   have hc:= hNx.cell
   have hf:= hNx.thaw
   refine ⟨⟨_, hc⟩, by go_simp, fun e he => by simp [go_sem, hc, hf] at he; exact he, ?_⟩
   have W:= ExtX.write (ty:= link.tWg) (v:= .int .i64 i) hGx.snug hNx.own ⟨_, hc⟩
   have hH : Gp c w bw z (Lq bw n forks q1 q3 q4) i kids g2 (w₁.setCell ⟨q2, 0, none⟩ (.int .i64 i)) /\ Nx w g2 (w₁.setCell ⟨q2, 0, none⟩ (.int .i64 i)) q2 (.int .i64 i) :=
     ⟨gp_ext hGx S o3 W.1 (fun a e => by subst e; exact ⟨hNx.new, fun q v hq e => hq2 q v hq (congrArg Addr.block e).symm⟩) o4, ⟨hNx.own, W.2, (frozen_set _ _ _ _).trans hf, hNx.new⟩⟩
   clear W hf hc hGx hNx hN2 hG
   have T:= hT q2 (hq2 q1 _ (.tail _ (.tail _ (.head _)))) (hq2 q3 _ (.tail _ (.head _))) (hq2 q4 _ (.head _)) hH.2.new
   have rl : ∀ {y y' : World}, (Gp c w bw z (Lq bw n forks q1 q3 q4) i kids g2 y /\ Nx w g2 y q2 (.int .i64 i)) -> Rely link.tWg g2 y y' -> (Gp c w bw z (Lq bw n forks q1 q3 q4) i kids g2 y' /\ Nx w g2 y' q2 (.int .i64 i)):= fun h r => ⟨gp_rely h.1 S o3 o4 r, h.2.rely r⟩
   walk_nrm
   refine goes_run 60 (.inl rfl) rfl hH.1.snug ?_
   u_c stepG_region_end rl hH
   u_c stepG_seq rl hH
   u_reg rl hH
   u_in rl hH
   refine goes_call rfl rfl (by k_ne) rfl wgLib.f_add (nm_add link) rfl ⟨by u_nil, ?_⟩
   walk_nrmf addFn
   refine Goes.stop (fun w₁ h₁ => ?_)
   replace hH:= rl hH h₁
   clear h₁
   have hcur : g2.cur = some z:= by rw [hH.1.cfg]
   have e:= cf_calm hC hH.1
   have hAdd:= @addS link Tryz.prog FinN g2 z i w₁ ((base 63))
   rw [e] at hAdd
   refine hAdd wgLib hcur (fun w' hFz => ?_) w₁ ⟨.refl _ _ _, hH.1.live, hH.1.snug⟩
   replace hH:= rl hH hFz.1
   clear hFz
   simp only [List.getElem?_toArray, List.getElem?_cons_zero, Option.bind_some]
   walk_nrm
   have rl2 : ∀ {y y' : World}, (Gp c w bw z (Lq bw n forks q1 q3 q4) i kids g2 y /\ Nx w g2 y q2 (.int .i64 i)) -> Rely link.tWg (cf g2 0 true i) y y' -> (Gp c w bw z (Lq bw n forks q1 q3 q4) i kids g2 y' /\ Nx w g2 y' q2 (.int .i64 i)):= fun h r => rl h r.cf
   refine goes_run 60 (.inl rfl) rfl hH.1.snug.cf ?_
   u_c stepG_region_end rl2 hH
   u_reg rl2 hH
   u_op rl2 hH
   refine Goes.stop (fun w₁ h₁ => ?_)
   replace hH:= rl2 hH h₁
   clear h₁
   have hl:= T.low
   have hkids : (cf g2 0 true i).kids.length < 1000:= by
     show g2.kids.length < 1000
     rw [hH.1.cfg]; exact hk
   refine ScS.goStmt (d:= kidCall z q1 q2 q3 q4) (f:= .func 81) (cc:= #[.pointer (some ⟨z, 0, none⟩), .pointer (some ⟨q1, 0, none⟩), .pointer (some ⟨q2, 0, none⟩), .pointer (some ⟨q3, 0, none⟩), .pointer (some ⟨q4, 0, none⟩)]) (z:= z)
     rfl (by rfl) (by k_ne) (fun w => by simp [go_sem, kidCall, Deferred.ofValue]) rfl (fun w => by simp [go_sem, Deferred.ofValue]) rfl rfl hkids hcur (fun w₁ h₁ => ?_)
   replace hH:= rl2 hH h₁
   clear h₁
   have hsp:= spawn_perms T i2 hH.1 hH.2.own
   refine ⟨oP bw i q2, rP g2 bw i q1 q2 q3 q4, oP' g2 bw i q1 q2 q3 q4, rP' g2 bw i q1 q2 q3 q4, vow A n c w bw i t, hsp, ?_, ?_⟩
   . exact kid_script (c0:= kidC g2 z (vow A n c w bw i t) bw i q1 q2 q3 q4) (z:= z) (q1:= q1) (q2:= q2) (q3:= q3) (q4:= q4) hseal hforks rfl (kid_kf T i2 hA hH.1 hH.2.own hH.2.cell hcell hthaw hN) hH.1.live (by have:= T.new1; omega) (by have:= T.new; omega) (by have:= T.new3; omega) (by have:= T.new4; omega) (fun w1 r c' w' b' E hc hS => kid_vow T hH.1 w1 r c' w' b' E hc hS i2)
   have hP : Gp c w bw z (Lq bw n forks q1 q3 q4) (i + 1) (vow A n c w bw i t :: kids) (parC g2 (vow A n c w bw i t) bw i q1 q2 q3 q4) w₁:= gp_spawn T i2 hH.1 hH.2.own
   show ScS link.tWg Tryz.prog FinN .work (parC g2 (vow A n c w bw i t) bw i q1 q2 q3 q4) _ _
   generalize parC g2 (vow A n c w bw i t) bw i q1 q2 q3 q4 = g3 at hP ⊢
   clear hH rl rl2 hAdd e hcur hkids hsp
   walk_nrm
   have rl : ∀ {y y' : World}, Gp c w bw z (Lq bw n forks q1 q3 q4) (i + 1) (vow A n c w bw i t :: kids) g3 y -> Rely link.tWg g3 y y' -> Gp c w bw z (Lq bw n forks q1 q3 q4) (i + 1) (vow A n c w bw i t :: kids) g3 y':= fun h r => gp_rely h S o3 o4 r
   refine goes_run 60 (.inl rfl) rfl hP.snug ?_
   u_c stepG_region_end rl hP
   u_c stepG_inBlock rl hP
   u_reg rl hP
   u_op rl hP
   u_op rl hP
   u_c stepG_region_end rl hP
   u_c stepG_inLoop rl hP
   refine Goes.stop (fun w₂ h₁ => ?_)
   replace hP:= rl hP h₁
   clear h₁
   refine K _ g3 w₂ ?_ hP
   rcases i2 with rfl | rfl <;> exact ⟨rfl, rfl, rfl, rfl, rfl, rfl, rfl, rfl⟩
 exact hE
end
end
section
variable {A : Nat -> Prop} {n : Nat} {c : Cfg} {w : World} {bw z : Nat} {g : Cfg} {x y : World} {q1 q2 q3 q4 : Nat} {tl tr : Tr} {L : List (Nat × Value)} {l : List (Perm × Perm)}
theorem oks_two {V1 V0 : Vow} (hk : g.kids = [V1, V0]) (h : Oks g l y) : ∃ p1 p0 : Perm × Perm, l = [p1, p0] /\ V1.ok p1.1 p1.2 y /\ V0.ok p0.1 p0.2 y:= by
 obtain ⟨h1, h2⟩:= h
 rw [hk] at h1 h2
 rcases l with _ | ⟨p1, _ | ⟨p0, _ | ⟨p, l⟩⟩⟩
 . simp at h1
 . simp at h1
 . exact ⟨p1, p0, rfl, h2 (p1, V1) (by simp), h2 (p0, V0) (by simp)⟩
 . simp at h1
theorem any_two {p1 p0 : Perm × Perm} {pick : Perm × Perm -> Perm} {a : Addr} : anyOf [p1, p0] pick a ↔ pick p1 a \/ pick p0 a:= by
 simp [anyOf]
theorem join_snug (S : Snug c w) (o3 : c.own ⟨bw, 3, none⟩) (o4 : c.own ⟨bw, 4, none⟩) (h : Gp c w bw z L 2 [vow A n c w bw 1 tr, vow A n c w bw 0 tl] g x) (F : Fz link.tWg g z x y) (hO : Oks g l y) : Snug (joined g l) y:= by
 have hg:= h.cfg
 obtain ⟨p1, p0, rfl, k1, k0⟩:= oks_two (V1:= vow A n c w bw 1 tr) (V0:= vow A n c w bw 0 tl) (by rw [hg]) hO
 have hup : g.up = c.up:= by rw [hg]
 refine ⟨fun a ha => ?_, fun z' hz => (by cases hz), fun z' v hz => ?_⟩
 . rcases ha with (ha | ha) | (ha | ha)
   . exact F.2.2.low a (.inl ha)
   . exact (any_two.1 ha).elim (fun e => k1.2.2.2.1 a (.inl e)) fun e => k0.2.2.2.1 a (.inl e)
   . exact F.2.2.low a (.inr ha)
   . exact (any_two.1 ha).elim (fun e => k1.2.2.2.1 a (.inr e)) fun e => k0.2.2.2.1 a (.inr e)
 . have hz' : c.up = some (z', v):= hup ▸ hz
   obtain ⟨hlt, hno⟩:= S.up z' v hz'
   refine ⟨Nat.lt_of_lt_of_le hlt (Nat.le_trans h.size F.1.size), fun a e ha => ?_⟩
   have hown : ∀ q : Addr, (q = ⟨bw, 3, none⟩ \/ q = ⟨bw, 4, none⟩) -> c.own q:= fun q hq => by rcases hq with rfl | rfl <;> assumption
   have key : c.own a \/ c.rd a \/ w.heap.size <= a.block:= by
     rcases ha with (ha | ha) | (ha | ha)
     . exact (h.own' a ha).imp id .inr
     . rcases any_two.1 ha with e | e
       . exact (k1.2.1 a e).elim (fun e => .inl (hown a (.inr e))) fun e => .inr (.inr e)
       . exact (k0.2.1 a e).elim (fun e => .inl (hown a (.inl e))) fun e => .inr (.inr e)
     . exact (h.rd' a ha).elim (fun e => .inr (.inl e)) fun e => e.elim .inl fun e => .inr (.inr e)
     . rcases any_two.1 ha with e | e
       . exact (k1.2.2.1 a e).elim (fun e => .inr (.inl e)) fun e => e.elim .inl fun e => .inr (.inr e)
       . exact (k0.2.2.1 a e).elim (fun e => .inr (.inl e)) fun e => e.elim .inl fun e => .inr (.inr e)
   rcases key with k | k | k
   . exact hno a e (.inl k)
   . exact hno a e (.inr k)
   . omega
theorem join_ext (S : Snug c w) (hC : Calm c) (o3 : c.own ⟨bw, 3, none⟩) (o4 : c.own ⟨bw, 4, none⟩) (h : Gp c w bw z L 2 [vow A n c w bw 1 tr, vow A n c w bw 0 tl] g x) (F : Fj link.tWg g z x l y) :
   ∃ bl br, ExtX link.tWg (Two bw) c w (joined g l) y /\ y.cell? ⟨bw, 3, none⟩ = some (.pointer (ptr bl)) /\ y.cell? ⟨bw, 4, none⟩ = some (.pointer (ptr br)) /\ Sd nodeT (dgw n) (Off A (joined g l) bw) y tl bl /\ Sd nodeT (dgw n) (Off A (joined g l) bw) y tr br:= by
 obtain ⟨w1, F1, hO, r, S2⟩:= F
 have hg:= h.cfg
 obtain ⟨p1, p0, rfl, k1, k0⟩:= oks_two (V1:= vow A n c w bw 1 tr) (V0:= vow A n c w bw 0 tl) (by rw [hg]) hO
 obtain ⟨a1, a2, a3, a4, br, a5, a6⟩:= k1
 obtain ⟨d1, d2, d3, d4, bl, d5, d6⟩:= k0
 have hup : g.up = c.up:= by rw [hg]
 have hown : ∀ a, c.own a -> (joined g [p1, p0]).own a:= fun a ha => by
   by_cases e3 : a = ⟨bw, 3, none⟩
   . subst e3; exact .inr (any_two.2 (.inr d1))
   by_cases e4 : a = ⟨bw, 4, none⟩
   . subst e4; exact .inr (any_two.2 (.inl a1))
   exact .inl (h.own a ha (fun _ => e3) (fun _ => e4))
 have sub1 : ∀ b, (∀ a : Addr, a.block = b -> p1.1 a \/ p1.2 a) -> ∀ a : Addr, a.block = b -> (joined g [p1, p0]).own a \/ (joined g [p1, p0]).rd a:= fun b hb a e => (hb a e).imp (fun e => .inr (any_two.2 (.inl e))) fun e => .inr (any_two.2 (.inl e))
 have sub0 : ∀ b, (∀ a : Addr, a.block = b -> p0.1 a \/ p0.2 a) -> ∀ a : Addr, a.block = b -> (joined g [p1, p0]).own a \/ (joined g [p1, p0]).rd a:= fun b hb a e => (hb a e).imp (fun e => .inr (any_two.2 (.inr e))) fun e => .inr (any_two.2 (.inr e))
 refine ⟨bl, br, ⟨?_, hown, fun a ha => ?_, fun a ha => .inl (h.rd a ha), fun a ha => ?_, Nat.le_trans h.size (Nat.le_trans F1.1.size r.size), fun a ha hn => ?_, fun b s hs => r.shape b s (F1.1.shape b s (h.shape b s hs)), fun z' hz => ?_, fun z' v hz hl => ?_,
   r.os.trans (F1.1.os.trans h.os), r.tape.trans (F1.1.tape.trans h.tape), r.output.trans (F1.1.output.trans h.output), S2⟩, (r.same _ (.inl (hown _ o3))).cell.trans d5, (r.same _ (.inl (hown _ o4))).cell.trans a5, ?_, ?_⟩
 . have h1:= hC.deaf
   have h2:= hC.pend
   have h3:= hC.cur
   have h4:= hC.kids
   have h5:= hC.ub
   cases g
   cases c
   simp only at h1 h2 h3 h4 h5
   subst h1 h2 h3 h4 h5
   simp only [Cfg.mk.injEq, true_and] at hg
   obtain ⟨rfl, rfl, rfl, rfl, rfl, -, rfl⟩:= hg
   rfl
 . rcases ha with ha | ha
   . exact h.own' a ha
   . rcases any_two.1 ha with e | e
     . exact (a2 a e).imp (fun e => by subst e; exact o4) id
     . exact (d2 a e).imp (fun e => by subst e; exact o3) id
 . rcases ha with ha | ha
   . exact h.rd' a ha
   . exact (any_two.1 ha).elim (a3 a) (d3 a)
 . refine ((h.same a ha hn).trans (F1.1.same a ?_)).trans (r.same a ?_)
   . exact ha.imp (fun ha => h.own a ha (fun _ e => hn (.inl e)) (fun _ e => hn (.inr e))) (h.rd a)
   . exact ha.imp (hown a) fun ha => .inl (h.rd a ha)
 . have:= hC.cur
   rw [this] at hz
   cases hz
 . have hz' : g.up = some (z', v):= by rw [hup]; exact hz
   exact r.up z' v hz' (F1.1.up z' v hz' (h.up z' v hz hl))
 . exact (d6.same fun a ha => r.same a (sub0 _ ha.1.2 a rfl)).mono fun b hb => ⟨⟨hb.1.1, sub0 b hb.1.2⟩, hb.2⟩
 . exact (a6.same fun a ha => r.same a (sub1 _ ha.1.2 a rfl)).mono fun b hb => ⟨⟨hb.1.1, sub1 b hb.1.2⟩, hb.2⟩
section
variable {FinN : Perm -> Perm -> Goroutine -> World -> Prop} {b : Frame} {cs : List Frame}
set_option maxRecDepth 20000 in
set_option maxHeartbeats 8000000 in
theorem kid_wait {a : Act} (S : Snug c w) (hC : Calm c) (o3 : c.own ⟨bw, 3, none⟩) (o4 : c.own ⟨bw, 4, none⟩)
   (hG : Gp c w bw z L 2 [vow A n c w bw 1 tr, vow A n c w bw 0 tl] g x) (ha : Ag q1 q3 q4 z 2 a) (K : SidesK A link.tWg FinN n tl tr bw c w b cs) :
   ScS link.tWg Tryz.prog FinN .work g (G ((base 63).at a [.code kidLb, .inLoop kidLb, .inBlock 2, .code waitR]) (b :: cs)) x:= by
 obtain ⟨T, ds⟩:= a
 obtain ⟨ts, df, t3, t4, t5, t8, t27, t28⟩:= ha
 replace df : ds = []:= df
 subst df
 obtain ⟨v0, v1, v2, v3, v4, v5, v6, v7, v8, v9, v10, v11, v12, v13, v14, v15, v16, v17, v18, v19, v20, v21, v22, v23, v24, v25, v26, v27, v28, v29, v30, v31, v32, v33, v34, rfl⟩:= array35 T ts
 simp only []
 simp only [Array.getD_eq_getD_getElem?, List.getElem?_toArray, List.getElem?_cons_succ, List.getElem?_cons_zero, Option.getD_some] at t3 t4 t5 t8 t27 t28
 subst t3 t4 t5 t8 t27 t28
 have rl : ∀ {y y' : World}, Gp c w bw z L 2 [vow A n c w bw 1 tr, vow A n c w bw 0 tl] g y -> Rely link.tWg g y y' -> Gp c w bw z L 2 [vow A n c w bw 1 tr, vow A n c w bw 0 tl] g y':= fun h r => gp_rely h S o3 o4 r
 have hE : ScS link.tWg Tryz.prog FinN .work g (G ((base 63).at ⟨#[v0, v1, v2, .pointer (some ⟨q1, 0, none⟩), .pointer (some ⟨q3, 0, none⟩), .pointer (some ⟨q4, 0, none⟩), v6, v7, .pointer (some ⟨z, 0, none⟩), v9, v10, v11, v12, v13, v14, v15, v16, v17, v18, v19, v20, v21, v22, v23, v24, v25, v26, .int .i64 2, .int .i64 ((2 : Nat) : Int), v29, v30, v31, v32, v33, v34], []⟩ [.code kidLb, .inLoop kidLb, .inBlock 2, .code waitR]) (b :: cs)) x:= by
   simp only [kidLb, waitR, sidesTail, sidesRest, Tryz.f63, Option.getD_some]
   refine goes_run 60 (.inl rfl) rfl hG.snug ?_
   u_c stepG_seq rl hG
   u_reg rl hG
   u_op rl hG
   u_c stepG_region_end rl hG
   u_c stepG_seq rl hG
   u_cond false rl hG
   u_exit rl hG
   u_reg rl hG
   u_in rl hG
   refine goes_call rfl rfl (by k_ne) rfl wgLib.f_wait (nm_wait link) rfl ⟨by u_nil, ?_⟩
   walk_nrmf waitFn
   refine Goes.stop (fun w₁ h₁ => ?_)
   replace hG:= rl hG h₁
   clear h₁
   have hcur : g.cur = some z:= by rw [hG.cfg]
   have e:= cf_calm hC hG
   have hW:= @waitS link Tryz.prog FinN g z w₁ ((base 63))
   have hW2:= fun a₀ ops₀ i₀ rest₀ k₀ cs h1 h2 h3 => @hW a₀ ops₀ i₀ rest₀ k₀ cs wgLib hcur h1 h2 2 (by omega) w₁ h3
   rw [e] at hW2
   refine hW2 _ _ _ _ _ _ (fun l w' F hO => join_snug S o3 o4 hG F hO) (fun l y F => ?_) ⟨.refl _ _ _, hG.live, hG.snug⟩
   simp only [List.getElem?_toArray, List.getElem?_cons_zero, Option.bind_some]
   walk_nrm
   have hS2 : Snug (joined g l) y:= F.choose_spec.2.2.2
   refine goes_run 60 (.inl rfl) rfl hS2 ?_
   u_c stepG_region_end fj_rely F
   u_c stepG_end fj_rely F
   refine Goes.stop (fun w₂ h₁ => ?_)
   replace F:= fj_rely F h₁
   obtain ⟨bl, br, E, c3, c4, s3, s4⟩:= join_ext S hC o3 o4 hG F
   exact ScS.ctl rfl rfl rfl E.snug (fun w₁ => stepG_leave rfl rfl Tryz.func63 (results_none (fn:= Tryz.f63) rfl _ _ _) (events_results_none (fn:= Tryz.f63) rfl _ _)) (K _ _ bl br E c3 c4 s3 s4)
 exact hE
set_option maxRecDepth 20000 in
set_option maxHeartbeats 8000000 in
theorem sides_okS {forks : Nat} (hforks : forks = 0 \/ forks = 1 \/ forks = 2) {tl tr : Tr} (h1 : SealOk link.tWg FinN n forks tl) (h2 : SealOk link.tWg FinN n forks tr) : SidesOk link.tWg FinN n (forks + 1) tl tr:= by
 intro A c w bw bl br b cs hC S hA hlow o3 o4 r3 r4 e3 e4 t3 t4 N1 N2 K
 refine sides_boxes (forks + 1) S ?_
 intro q1 q3 q4 c1 x1 _ _ _ hB
 have b1:= (hB.bx q1 _ (.tail _ (.tail _ (.head _)))).new
 have b3:= (hB.bx q3 _ (.tail _ (.head _))).new
 have b4:= (hB.bx q4 _ (.head _)).new
 have hT : ∀ q2, (q1 ≠ q2) -> (q3 ≠ q2) -> (q4 ≠ q2) -> w.heap.size <= q2 -> At c w bw q1 q2 q3 q4:= fun q2 d1 d3 d4 d => ⟨S, hC, o3, o4, r3, r4, d1, d3, d4, d, b1, b3, b4⟩
 have hE : ScS link.tWg Tryz.prog FinN .work c1 (G ((base 63).at ⟨#[.slice (some ⟨bw, 3, none⟩) 2 2, .int .i64 n, .int .i64 ((forks + 1 : Nat) : Int), .pointer (some ⟨q1, 0, none⟩), .pointer (some ⟨q3, 0, none⟩), .pointer (some ⟨q4, 0, none⟩), undef, undef, undef, undef, undef, undef, undef, undef, undef, undef, undef, undef, undef, undef, undef, undef, undef, undef, undef, undef, undef, undef, undef, undef, undef, undef, undef, undef, undef], []⟩ [.code sidesRest]) (b :: cs)) x1:= by
   have hk:= fun {kids} {g} {x} {t} {bs} {z} {i} {a} => @kid_iter A n c w bw z i kids g x q1 q3 q4 t bs FinN b cs forks a
   have hw:= fun {z} {g} {x} {a} => @kid_wait A n c w bw z g x q1 q3 q4 tl tr (Lq bw n forks q1 q3 q4) FinN b cs a S hC o3 o4
   simp only [kidLb, waitR, sidesTail, sidesRest, Tryz.f63, Option.getD_some] at hk hw ⊢
   refine goes_run 60 (.inl rfl) rfl hB.ext.snug ?_
   u_c stepG_seq bd_rely hB
   u_c stepG_seq bd_rely hB
   u_reg bd_rely hB
   refine Goes.stop (fun w₁ h₁ => ?_)
   replace hB:= bd_rely hB h₁
   clear h₁
   refine ScS.read (v:= .int .i64 ((forks + 1 : Nat) : Int)) rfl hB.ext.snug rfl (by rfl) (by k_ne) (fun w₁ h₁ => ?_) ?_
   . have hq:= (bd_rely hB h₁).bx q4 _ (List.mem_cons_self)
     have hc:= hq.cell
     exact ⟨by go_simp, fun e he => by simp [go_sem, hc] at he; subst he; exact ⟨_, rfl, .inl hq.own⟩⟩
   walk_nrm
   refine ScS.read (v:= .bool false) rfl hB.ext.snug rfl (by rfl) (by k_ne) (fun w₁ h₁ => ⟨by rcases hforks with rfl | rfl | rfl <;> (go_simp <;> rfl), fun e he => by simp [go_sem] at he⟩) ?_
   walk_nrm
   refine goes_run 60 (.inl rfl) rfl hB.ext.snug ?_
   u_c stepG_region_end bd_rely hB
   u_cond false bd_rely hB
   u_c stepG_skip bd_rely hB
   u_c stepG_seq bd_rely hB
   u_reg bd_rely hB
   refine Goes.stop (fun w₁ h₁ => ?_)
   replace hB:= bd_rely hB h₁
   clear h₁
   refine ScS.group (w:= w) (bw:= bw) rfl S hC o3 o4 hB rfl (by rfl) (by k_ne) (fun w₁ => ⟨by go_simp <;> rfl, fun e he => by simp [go_sem, Hush.zeroValue _ _] at he⟩) ?_
   intro z g0 x0 hz hG
   clear hB
   walk_nrm
   have rl : ∀ {y y' : World}, Gp c w bw z (Lq bw n forks q1 q3 q4) 0 [] g0 y -> Rely link.tWg g0 y y' -> Gp c w bw z (Lq bw n forks q1 q3 q4) 0 [] g0 y':= fun h r => gp_rely h S o3 o4 r
   refine goes_run 60 (.inl rfl) rfl hG.snug ?_
   u_c stepG_region_end rl hG
   u_c stepG_seq rl hG
   u_c stepG_seq rl hG
   u_reg rl hG
   refine Goes.stop (fun w₁ h₁ => ?_)
   replace hG:= rl hG h₁
   clear h₁
   refine ScS.read (v:= .slice (some ⟨bw, 3, none⟩) 2 2) rfl hG.snug rfl (by rfl) (by k_ne) (fun w₁ h₁ => ?_) ?_
   . have hq:= ((rl hG h₁).bx q1 _ (.tail _ (.tail _ (.head _)))).1
     have hc:= hq.2
     exact ⟨by go_simp, fun e he => by simp [go_sem, hc] at he; subst he; exact ⟨_, rfl, hq.1⟩⟩
   walk_nrm
   refine goes_run 60 (.inl rfl) rfl hG.snug ?_
   u_op rl hG
   u_op rl hG
   u_c stepG_region_end rl hG
   u_c stepG_block rl hG
   u_c stepG_loop rl hG
   refine Goes.stop (fun w₁ h₁ => ?_)
   replace hG:= rl hG h₁
   clear h₁
   refine hk h1 hforks hT S hC o3 o4 (.inl rfl) hA e3 t3 N1 (by simp) hG ⟨rfl, rfl, rfl, rfl, rfl, rfl, rfl, rfl⟩ ?_
   intro a2 g2 x2 ha2 hG2
   refine hk h2 hforks hT S hC o3 o4 (.inr rfl) hA e4 t4 N2 (by simp) hG2 ha2 ?_
   intro a3 g3 x3 ha3 hG3
   exact hw hG3 ha3 K
 exact hE
end
theorem seal_all {FinN : Perm -> Perm -> Goroutine -> World -> Prop} (hn : n <= 32) : ∀ (t : Tr), Wf t -> ∀ forks, forks <= 3 -> SealOk link.tWg FinN n forks t:= by
 intro t
 induction t with
 | empty => exact fun hW forks _ => seal_ok hn forks _ hW fun p tl tr e => by cases e
 | leaf p v => exact fun hW forks _ => seal_ok hn forks _ hW fun p tl tr e => by cases e
 | branch p l r ihl ihr =>
   intro hW forks hf
   refine seal_ok hn forks _ hW fun p' tl tr e => ?_
   cases e
   cases forks with
   | zero => exact sides_ok0 (ihl hW.2.1 0 (by omega)) (ihr hW.2.2 0 (by omega))
   | succ f => exact sides_okS (by omega) (ihl hW.2.1 f (by omega)) (ihr hW.2.2 f (by omega))
end
end Go.Proofs.YtddcbeeldjjmeaaGreat
