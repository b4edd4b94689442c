/- SEALING A TREE: the first goroutine's call of Sealed. -/
import Derived.Test.YtddcbeeldjjmeaaGreatPart21
import Derived.Test.YtddcbeeldjjmeaaGreatPart9
namespace Go.Proofs.YtddcbeeldjjmeaaGreat
open Go Go.Conc Go.Eq Go.Nest Go.RowKit Go.Conc.Lib Go.ConcR.Gen Go.ConcN.Gen
open Go.ConcR (DC0 WgAt)
open Go.ConcN (WgLive)
section
variable {FinN : Perm -> Perm -> Goroutine -> World -> Prop} {n : Nat} {c : Cfg} {w : World} {b : Frame} {cs : List Frame} {A D : Nat -> Prop} {t : Tr}
def Sx (A : Nat -> Prop) (n : Nat) (t : Tr) (b' : Nat) (c' : Cfg) (x : World) : Prop:= Sd nodeT (dgw n) (fun y => (0 <= y /\ ¬ A y) /\ ∀ a : Addr, a.block = y -> c'.own a \/ c'.rd a) x t b'
def Sp (A : Nat -> Prop) (n : Nat) (c : Cfg) (w : World) (t : Tr) (b' : Nat) (c' : Cfg) (x : World) : Prop:= ExtX link.tWg (fun _ => False) c w c' x /\ Sx A n t b' c' x
theorem sp_rely {b' : Nat} {c' : Cfg} {x y : World} (h : Sp A n c w t b' c' x) (r : Rely link.tWg c' x y) : Sp A n c w t b' c' y:= ⟨h.1.go r, h.2.same fun a ha => r.same a (ha.2 a rfl)⟩
abbrev dnC (D : Nat -> Prop) (c : Cfg) : Cfg:= { c with own:= fun a => c.own a /\ ¬ D a.block, rd:= fun a => c.rd a \/ D a.block }
def Nx0 (A D : Nat -> Prop) (n : Nat) (t : Tr) (b0 : Nat) (c : Cfg) (w x : World) : Prop:= Rely link.tWg (dnC D c) w x /\ Snug (dnC D c) x /\ Nd nodeT (dgw n) (Rr A (dnC D c)) x t b0
theorem nx0_rely {b0 : Nat} {x y : World} (h : Nx0 A D n t b0 c w x) (r : Rely link.tWg (dnC D c) x y) : Nx0 A D n t b0 c w y:= ⟨h.1.trans _ r, h.2.1.rely r, h.2.2.same fun a ha => r.same a (ha.2 a rfl)⟩
set_option maxRecDepth 20000 in
set_option maxHeartbeats 4000000 in
theorem sealed_main (hn : n <= 32) (hW : Wf t) {b0 : Nat} (hm : c.main = true) (hC : Calm c) (S : Snug c w) (hA : ∀ x, A x -> x < w.heap.size) (hD : ∀ y, D y -> Rof c y) (hN : Nd nodeT (dgw n) (fun y => (0 <= y /\ ¬ A y) /\ D y) w t b0)
   (K : ∀ c' w' b', Over link.tWg c w c' w' -> Sd nodeT (dgw n) (fun y => (0 <= y /\ ¬ A y) /\ ∀ a : Addr, a.block = y -> c'.own a) w' t b' -> ScS link.tWg Tryz.prog FinN .work c' (G (b.finish (.pointer (ptr b'))) cs) w') :
   ScS link.tWg Tryz.prog FinN .work c (live (Frame.enter Tryz.prog 37 #[.pointer (ptr b0), .int .i64 n] .normal) (b :: cs)) w:= by
 have hsub : ∀ a, (dnC D c).own a \/ (dnC D c).rd a -> c.own a \/ c.rd a:= fun a h => h.elim (fun h => .inl h.1) fun h => h.elim .inr fun h => hD _ h a rfl
 have hF : Nx0 A D n t b0 c w w:= ⟨.refl _ _ _, ⟨fun a h => S.low a (hsub a h), fun z hz => ⟨(S.cur z hz).1, fun a e h => (S.cur z hz).2 a e (hsub a h)⟩, fun z v hz => ⟨(S.up z v hz).1, fun a e h => (S.up z v hz).2 a e (hsub a h)⟩⟩,
   hN.mono fun y hy => ⟨⟨hy.1, fun a e => ⟨.inr (e ▸ hy.2), fun h => h.2 (e ▸ hy.2)⟩⟩, fun a e => .inr (.inr (e ▸ hy.2))⟩⟩
 rw [enter_at _ Tryz.func37 (by rfl)]
 walk_nrmf Tryz.f37
 show ScS link.tWg Tryz.prog FinN .work c (G _ _) w
 simp only [ptr]
 refine ScS.turn (own':= fun a => c.own a /\ ¬ D a.block) (rd':= fun a => c.rd a \/ D a.block) rfl rfl rfl hm hC.cur S (fun w₁ => stepG_seq) (fun a h => .inl h.1) (fun a h => h.elim .inr fun h => hD _ h a rfl) ?_
 show ScS link.tWg Tryz.prog FinN .work (dnC D c) _ _
 refine goes_run 60 (.inl rfl) rfl hF.2.1 ?_
 u_reg nx0_rely hF
 u_op nx0_rely hF
 u_c stepG_region_end nx0_rely hF
 u_c stepG_seq nx0_rely hF
 u_reg nx0_rely hF
 u_op nx0_rely hF
 u_op nx0_rely hF
 refine Goes.stop (fun w₁ h₁ => ?_)
 replace hF:= nx0_rely hF h₁
 clear h₁
 refine ScS.enter rfl hF.2.1 rfl (by rfl) (by k_ne) rfl Tryz.func50 (by rfl) rfl ?_
 walk_nrm
 have hcalm : Calm (dnC D c):= ⟨hC.deaf, hC.cur, hC.pend, hC.kids, hC.ub⟩
 refine seal_all hn t hW 3 (Nat.le_refl 3) A (dnC D c) w₁ b0 _ _ hcalm hF.2.1 (fun x hx => Nat.lt_of_lt_of_le (hA x hx) hF.1.size) hF.2.2 ?_
 intro c' w' b' E hS
 rw [Frame.finish_at]
 walk_nrm
 have hE : ExtX link.tWg (fun _ => False) (dnC D c) w c' w':= ((ExtX.refl (X:= fun _ => False) (S:= ⟨fun a h => S.low a (hsub a h), fun z hz => ⟨(S.cur z hz).1, fun a e h => (S.cur z hz).2 a e (hsub a h)⟩, fun z v hz => ⟨(S.up z v hz).1, fun a e h => (S.up z v hz).2 a e (hsub a h)⟩⟩)).go hF.1).trans E (fun _ e => e.elim)
 have hP : Sp A n (dnC D c) w t b' c' w':= ⟨hE, hS⟩
 clear hS E hE hF
 simp only [ptr]
 refine goes_run 60 (.inl rfl) rfl hP.1.snug ?_
 u_op sp_rely hP
 u_c stepG_region_end sp_rely hP
 refine Goes.stop (fun w₂ h₁ => ?_)
 replace hP:= sp_rely hP h₁
 clear h₁
 have hcf:= hP.1.cfg
 have hm' : c'.main = true:= by rw [hcf]; exact hm
 have hcur' : c'.cur = none:= by rw [hcf]; exact hC.cur
 refine ScS.turn (own':= fun a => c'.own a \/ c'.rd a) (rd':= c'.rd) rfl rfl rfl hm' hcur' hP.1.snug (fun w₁ => stepG_ret') (fun a h => h) (fun a h => .inr h) ?_
 have hcov : ∀ a, c.own a \/ c.rd a -> (dnC D c).own a \/ (dnC D c).rd a:= fun a h => by
   by_cases hd : D a.block
   . exact .inr (.inr hd)
   . exact h.imp (fun h => ⟨h, hd⟩) .inl
 have hO : Over link.tWg c w { c' with own:= fun a => c'.own a \/ c'.rd a, rd:= c'.rd } w₂:= by
   refine ⟨by rw [hcf], fun a h => (hcov a h).imp (hP.1.own a) (hP.1.rd a), fun a h => ?_, hP.1.size, fun a h => hP.1.same a (hcov a h) (fun e => e), hP.1.shape, hP.1.up, hP.1.os, hP.1.tape, hP.1.output, ⟨fun a h => hP.1.snug.low a (h.elim id .inr), fun z hz => ?_, fun z v hz => ?_⟩⟩
   . rcases h with h | h
     . exact (hP.1.own' a h).elim (fun h => (hsub a (.inl h)).imp id .inl) fun h => .inr (.inr h)
     . rcases hP.1.rd' a h with h | h | h
       . exact (hsub a (.inr h)).imp id .inl
       . exact (hsub a (.inl h)).imp id .inl
       . exact .inr (.inr h)
   . exact ⟨(hP.1.snug.cur z hz).1, fun a e h => (hP.1.snug.cur z hz).2 a e (h.elim id .inr)⟩
   . exact ⟨(hP.1.snug.up z v hz).1, fun a e h => (hP.1.snug.up z v hz).2 a e (h.elim id .inr)⟩
 exact ScS.ctl rfl rfl rfl hO.snug (fun w₁ => stepG_leave rfl rfl Tryz.func37 (results_tmp (t:= 4) rfl _ _ _) (events_results_tmp (t:= 4) rfl _ _)) (K _ _ b' hO hP.2)
end
structure Grew (u u' : World) : Prop where
 size : u.heap.size <= u'.heap.size
 old : ∀ y, y < u.heap.size -> u'.heap[y]? = u.heap[y]?
 os : u'.os = u.os
def SealedOrc : Oracle:= fun f args u Post => f = 37 /\ ∃ (n b0 : Nat) (t : Tr), n <= 32 /\ Wf t /\ args = #[.pointer (ptr b0), .int .i64 n] /\ Nd nodeT (dgw n) (fun _ => True) u t b0 /\
 Post = fun x u' => ∃ b', x = .pointer (ptr b') /\ Grew u u' /\ Sd nodeT (dgw n) (fun _ => True) u' t b'
def MainC (c : Cfg) : Prop:= c.main = true /\ Calm c
end Go.Proofs.YtddcbeeldjjmeaaGreat
