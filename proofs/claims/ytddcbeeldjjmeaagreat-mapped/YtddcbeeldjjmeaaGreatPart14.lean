/- SEALING A TREE: the loop that starts the children. -/
import Derived.Test.YtddcbeeldjjmeaaGreatPart13
import Derived.Test.YtddcbeeldjjmeaaGreatPart9
import Derived.Test.YtddcbeeldjjmeaaGreatProg
import Derived.WalkKit
import Derived.Ground.NamesProg
import Derived.Shelf.Strconv.Clone
import Derived.Shelf.Strings.SlTrimAscii
import Derived.Handy
import Derived.BigQuiet
import Derived.Test.YtddcbeeldjjmeaaGreatPart10
import Derived.Deep.RegionHeld3
import Derived.RegionTactic
import Derived.Lib.MinMax
namespace Go.Proofs.YtddcbeeldjjmeaaGreat
open Go Go.Conc Go.Eq Go.Nest Go.RowKit Go.Conc.Lib Go.ConcR.Gen Go.ConcN.Gen
open Go.ConcR (DC0 WgAt)
open Go.ConcN (WgLive)
noncomputable def kidLb : Code := match sidesTail with
 | .seq _ (.seq (.seq _ (.block _ (.loop l))) _) => l
 | _ => .skip
noncomputable def waitR : Code := match sidesTail with
 | .seq _ (.seq _ r) => r
 | _ => .skip
section
variable {A : Nat -> Prop} {n : Nat} {c : Cfg} {w : World} {bw z : Nat} {i : Nat} {kids : List Vow} {g : Cfg} {x : World} {q1 q2 q3 q4 : Nat} {t : Tr} {bs : Nat} {L : List (Nat × Value)}
theorem ScS.boxG {P : Program} {FinN : Perm -> Perm -> Goroutine -> World -> Prop} {s : Stg} {b : Frame} {a : Act} {k : List Item} {cs : List Frame} {ops : Array Oper} {j : Nat} {rest : List Nat} {o : Oper} {v : Value} {tt : TypeId} (hs : s.early = true) (S : Snug c w) (o3 : c.own ⟨bw, 3, none⟩) (o4 : c.own ⟨bw, 4, none⟩)
   (B : Gp c w bw z L i kids g x) (ho : ops[j]? = some o) (hw : Region.wanted o (yielded ops a.tmps) = true) (hk : b.kind ≠ .early)
   (h : ∀ w₁ : World, (execOp a.eval o).run P w₁ = .ok (.value (.pointer (some ⟨w₁.heap.size, 0, none⟩))) (fresh w₁ (.cells #[v] tt)) /\ ∀ e ∈ (execOp a.eval o).events P w₁ #[], False)
   (K : ∀ q g' x', (∀ q' v', (q', v') ∈ L -> q' ≠ q) -> Gp c w bw z L i kids g' x' -> Nx w g' x' q v -> ScS link.tWg P FinN s g' (G (b.at (a.put o.dst (.pointer (some ⟨q, 0, none⟩))) (.inRegion ops rest :: k)) cs) x') :
   ScS link.tWg P FinN s g (G (b.at a (.inRegion ops (j :: rest) :: k)) cs) x := by
 refine ScS.make (v := fun w₁ => .pointer (some ⟨w₁.heap.size, 0, none⟩)) (ob := fun _ => .cells #[v] tt) hs B.snug ho hw hk (fun w₁ h₁ => ⟨(h w₁).1, (h w₁).2, fun S2 => ?_⟩)
 have B1 := gp_rely B S o3 o4 h₁
 have S1 := B1.snug
 have E := Ext.fresh (ty := link.tWg) S1 S2
 exact K _ _ _ (fun q' v' hq e => Nat.lt_irrefl _ (e ▸ S1.low ⟨q', 0, none⟩ (B1.bx _ _ hq).1.1)) (gp_ext B1 S o3 (E.x (X := fun _ => False)) (fun _ e => e.elim) o4)
   ⟨fresh_own rfl, by simp only [World.cell?, fresh_new]; simp, by simp only [World.frozen?, fresh_new]; simp, B1.size⟩
theorem ScS.goStmt {ty : TypeId} {P : Program} {FinN : Perm -> Perm -> Goroutine -> World -> Prop} {c : Cfg} {w : World} {b : Frame} {a : Act} {k : List Item} {cs : List Frame} {ops : Array Oper} {j : Nat} {rest : List Nat} {op : Oper} {d : Deferred} {f : Fn} {cc : Array Value} {z : Nat}
   (ho : ops[j]? = some op) (hw : Region.wanted op (yielded ops a.tmps) = true) (hk : b.kind ≠ .early) (hr : ∀ w, (execOp a.eval op).run P w = .ok (.spawn d) w) (hd : d.target = .fn f cc) (he : ∀ w, (execOp a.eval op).events P w #[] = #[])
   (hp : c.pend = true) (hd0 : c.deaf = 0) (hkids : c.kids.length < 1000) (hz : c.cur = some z)
   (h : ∀ w₁, Rely ty c w w₁ -> ∃ (o r o' r' : Perm) (v : Vow), ((∀ a, o a -> c.own a) /\ (∀ a, o' a -> c.own a /\ ¬ o a /\ ¬ r a) /\ (∀ a, r a -> (c.own a ∨ c.rd a) /\ ¬ o' a) /\ (∀ a, r' a -> (c.own a ∨ c.rd a) /\ ¬ o a)) /\
       ScS ty P FinN .work { main := false, own := o, rd := r, deaf := 0, cur := none, pend := false, ub := 0, kids := [], up := some (z, v) } (born P d) w₁ /\
       ScS ty P FinN .work { c with own := o', rd := r', pend := false, ub := c.ub + 1, kids := v :: c.kids } (G (b.at (a.put op.dst undef) (.inRegion ops rest :: k)) cs) w₁) :
   ScS ty P FinN .work c (G (b.at a (.inRegion ops (j :: rest) :: k)) cs) w := by
 refine ScS.spawn rfl rfl hp hd0 hkids hz fun w₁ h₁ => ?_
 obtain ⟨o, r, o', r', v, ⟨p1, p2, p3, p4⟩, h5, h6⟩ := h w₁ h₁
 exact ⟨_, born P d, o, r, o', r', v, by rw [stepG_spawn ho hw hk (hr w₁) hd]; unfold listed; rw [he w₁, seen_none], rfl, p1, p2, p3, p4, h5, h6⟩
structure Ag (q1 q3 q4 z : Nat) (i : Nat) (a : Act) : Prop where
 ts : a.tmps.size = 35
 df : a.defers = []
 t3 : a.tmps.getD 3 undef = .pointer (some ⟨q1, 0, none⟩)
 t4 : a.tmps.getD 4 undef = .pointer (some ⟨q3, 0, none⟩)
 t5 : a.tmps.getD 5 undef = .pointer (some ⟨q4, 0, none⟩)
 t8 : a.tmps.getD 8 undef = .pointer (some ⟨z, 0, none⟩)
 t27 : a.tmps.getD 27 undef = .int .i64 2
 t28 : a.tmps.getD 28 undef = .int .i64 i
theorem cf_calm (hC : Calm c) (h : Gp c w bw z L i kids g x) : cf g 0 false i = g := by
 have hg := h.cfg
 have h1 := hC.deaf
 have h2 := hC.pend
 cases g
 cases c
 simp only at h1 h2
 subst h1 h2
 simp only [Cfg.mk.injEq, true_and] at hg
 obtain ⟨-, rfl, -, rfl, rfl, -⟩ := hg
 rfl
section
variable {FinN : Perm -> Perm -> Goroutine -> World -> Prop} {b : Frame} {cs : List Frame} {forks : Nat}
abbrev Lq (bw n forks q1 q3 q4 : Nat) : List (Nat × Value) := Lb q1 q3 q4 (.slice (some ⟨bw, 3, none⟩) 2 2) (.int .i64 n) (.int .i64 ((forks + 1 : Nat) : Int))
set_option maxRecDepth 20000 in
set_option maxHeartbeats 8000000 in
theorem kid_iter {a : Act} (hseal : SealOk link.tWg FinN n forks t) (hforks : forks = 0 ∨ forks = 1 ∨ forks = 2) (hT : ∀ q2, (q1 ≠ q2) -> (q3 ≠ q2) -> (q4 ≠ q2) -> w.heap.size <= q2 -> At c w bw q1 q2 q3 q4) (S : Snug c w) (hC : Calm c) (o3 : c.own ⟨bw, 3, none⟩) (o4 : c.own ⟨bw, 4, none⟩) (i2 : i = 0 ∨ i = 1) (hA : ∀ y, A y -> y < w.heap.size)
   (hcell : w.cell? ⟨bw, 3 + i, none⟩ = some (.pointer (ptr bs))) (hthaw : w.frozen? ⟨bw, 3 + i, none⟩ = false) (hN : Nd nodeT (dgw n) (Ofr A c bw) w t bs) (hk : kids.length < 1000)
   (hG : Gp c w bw z (Lq bw n forks q1 q3 q4) i kids g x) (ha : Ag q1 q3 q4 z i a)
   (K : ∀ a' g' x', Ag q1 q3 q4 z (i + 1) a' -> Gp c w bw z (Lq bw n forks q1 q3 q4) (i + 1) (vow A n c w bw i t :: kids) g' x' ->
     ScS link.tWg Tryz.prog FinN .work g' (G ((base 63).at a' [.code kidLb, .inLoop kidLb, .inBlock 2, .code waitR]) (b :: cs)) x') :
   ScS link.tWg Tryz.prog FinN .work g (G ((base 63).at a [.code kidLb, .inLoop kidLb, .inBlock 2, .code waitR]) (b :: cs)) x := by
 obtain ⟨T, ds⟩ := a
 obtain ⟨ts, df, t3, t4, t5, t8, t27, t28⟩ := ha
 replace df : ds = [] := df
 subst df
 obtain ⟨v0, v1, v2, v3, v4, v5, v6, v7, v8, v9, v10, v11, v12, v13, v14, v15, v16, v17, v18, v19, v20, v21, v22, v23, v24, v25, v26, v27, v28, v29, v30, v31, v32, v33, v34, rfl⟩ := array35 T ts
 simp only []
 simp only [Array.getD_eq_getD_getElem?, List.getElem?_toArray, List.getElem?_cons_succ, List.getElem?_cons_zero, Option.getD_some] at t3 t4 t5 t8 t27 t28
 subst t3 t4 t5 t8 t27 t28
 have rl : ∀ {y y' : World}, Gp c w bw z (Lq bw n forks q1 q3 q4) i kids g y -> Rely link.tWg g y y' -> Gp c w bw z (Lq bw n forks q1 q3 q4) i kids g y' := fun h r => gp_rely h S o3 o4 r
 have hE : ScS link.tWg Tryz.prog FinN .work g (G ((base 63).at ⟨#[v0, v1, v2, .pointer (some ⟨q1, 0, none⟩), .pointer (some ⟨q3, 0, none⟩), .pointer (some ⟨q4, 0, none⟩), v6, v7, .pointer (some ⟨z, 0, none⟩), v9, v10, v11, v12, v13, v14, v15, v16, v17, v18, v19, v20, v21, v22, v23, v24, v25, v26, .int .i64 2, .int .i64 i, v29, v30, v31, v32, v33, v34], []⟩ [.code kidLb, .inLoop kidLb, .inBlock 2, .code waitR]) (b :: cs)) x := by
   simp only [kidLb, waitR, sidesTail, sidesRest, Tryz.f63, Option.getD_some] at K ⊢
   refine goes_run 60 (.inl rfl) rfl hG.snug ?_
   u_c stepG_seq rl hG
   u_reg rl hG
   u_op rl hG
   u_c stepG_region_end rl hG
   u_c stepG_seq rl hG
   have hlt : ((i : Int) < 2) := by omega
   simp only [hlt, decide_true]
   u_cond true rl hG
   u_c stepG_skip rl hG
   u_c stepG_seq rl hG
   u_c stepG_block rl hG
   u_c stepG_seq rl hG
   u_reg rl hG
   u_op rl hG
   refine Goes.stop (fun w₁ h₁ => ?_)
   replace hG := rl hG h₁
   clear h₁
   refine ScS.boxG (v := .int .i64 0) (tt := 3) rfl S o3 o4 hG rfl (by rfl) (by k_ne) (fun w₁ => ⟨by go_simp <;> rfl, fun e he => by simp [go_sem, Hush.zeroValue _ _] at he⟩) ?_
   clear hG rl
   intro q2 g2 x2 hq2 hG hN2
   walk_nrm
   refine ScS.write (x := ⟨q2, 0, none⟩) (v := .int .i64 i) rfl hG.snug hN2.own rfl (by rfl) (by k_ne) (fun w₁ h₁ => ?_)
   have hNx := hN2.rely h₁
   have hGx := gp_rely hG S o3 o4 h₁
   have hc := hNx.cell
   have hf := hNx.thaw
   refine ⟨⟨_, hc⟩, by go_simp, fun e he => by simp [go_sem, hc, hf] at he; exact he, ?_⟩
   have W := ExtX.write (ty := link.tWg) (v := .int .i64 i) hGx.snug hNx.own ⟨_, hc⟩
   have hH : Gp c w bw z (Lq bw n forks q1 q3 q4) i kids g2 (w₁.setCell ⟨q2, 0, none⟩ (.int .i64 i)) /\ Nx w g2 (w₁.setCell ⟨q2, 0, none⟩ (.int .i64 i)) q2 (.int .i64 i) :=
     ⟨gp_ext hGx S o3 W.1 (fun a e => by subst e; exact ⟨hNx.new, fun q v hq e => hq2 q v hq (congrArg Addr.block e).symm⟩) o4, ⟨hNx.own, W.2, (frozen_set _ _ _ _).trans hf, hNx.new⟩⟩
   clear W hf hc hGx hNx hN2 hG
   have T := hT q2 (hq2 q1 _ (.tail _ (.tail _ (.head _)))) (hq2 q3 _ (.tail _ (.head _))) (hq2 q4 _ (.head _)) hH.2.new
   have rl : ∀ {y y' : World}, (Gp c w bw z (Lq bw n forks q1 q3 q4) i kids g2 y /\ Nx w g2 y q2 (.int .i64 i)) -> Rely link.tWg g2 y y' -> (Gp c w bw z (Lq bw n forks q1 q3 q4) i kids g2 y' /\ Nx w g2 y' q2 (.int .i64 i)) := fun h r => ⟨gp_rely h.1 S o3 o4 r, h.2.rely r⟩
   walk_nrm
   refine goes_run 60 (.inl rfl) rfl hH.1.snug ?_
   u_c stepG_region_end rl hH
   u_c stepG_seq rl hH
   u_reg rl hH
   u_in rl hH
   refine goes_call rfl rfl (by k_ne) rfl wgLib.f_add (nm_add link) rfl ⟨by u_nil, ?_⟩
   walk_nrmf addFn
   refine Goes.stop (fun w₁ h₁ => ?_)
   replace hH := rl hH h₁
   clear h₁
   have hcur : g2.cur = some z := by rw [hH.1.cfg]
   have e := cf_calm hC hH.1
   have hAdd := @addS link Tryz.prog FinN g2 z i w₁ ((base 63))
   rw [e] at hAdd
   refine hAdd wgLib hcur (fun w' hFz => ?_) w₁ ⟨.refl _ _ _, hH.1.live, hH.1.snug⟩
   replace hH := rl hH hFz.1
   clear hFz
   simp only [List.getElem?_toArray, List.getElem?_cons_zero, Option.bind_some]
   walk_nrm
   have rl2 : ∀ {y y' : World}, (Gp c w bw z (Lq bw n forks q1 q3 q4) i kids g2 y /\ Nx w g2 y q2 (.int .i64 i)) -> Rely link.tWg (cf g2 0 true i) y y' -> (Gp c w bw z (Lq bw n forks q1 q3 q4) i kids g2 y' /\ Nx w g2 y' q2 (.int .i64 i)) := fun h r => rl h r.cf
   refine goes_run 60 (.inl rfl) rfl hH.1.snug.cf ?_
   u_c stepG_region_end rl2 hH
   u_reg rl2 hH
   u_op rl2 hH
   refine Goes.stop (fun w₁ h₁ => ?_)
   replace hH := rl2 hH h₁
   clear h₁
   have hl := T.low
   have hkids : (cf g2 0 true i).kids.length < 1000 := by
     show g2.kids.length < 1000
     rw [hH.1.cfg]; exact hk
   refine ScS.goStmt (d := kidCall z q1 q2 q3 q4) (f := .func 81) (cc := #[.pointer (some ⟨z, 0, none⟩), .pointer (some ⟨q1, 0, none⟩), .pointer (some ⟨q2, 0, none⟩), .pointer (some ⟨q3, 0, none⟩), .pointer (some ⟨q4, 0, none⟩)]) (z := z)
     rfl (by rfl) (by k_ne) (fun w => by simp [go_sem, kidCall, Deferred.ofValue]) rfl (fun w => by simp [go_sem, Deferred.ofValue]) rfl rfl hkids hcur (fun w₁ h₁ => ?_)
   replace hH := rl2 hH h₁
   clear h₁
   have hsp := spawn_perms T i2 hH.1 hH.2.own
   refine ⟨oP bw i q2, rP g2 bw i q1 q2 q3 q4, oP' g2 bw i q1 q2 q3 q4, rP' g2 bw i q1 q2 q3 q4, vow A n c w bw i t, hsp, ?_, ?_⟩
   · exact kid_script (c0 := kidC g2 z (vow A n c w bw i t) bw i q1 q2 q3 q4) (z := z) (q1 := q1) (q2 := q2) (q3 := q3) (q4 := q4) hseal hforks rfl (kid_kf T i2 hA hH.1 hH.2.own hH.2.cell hcell hthaw hN) hH.1.live (by have := T.new1; omega) (by have := T.new; omega) (by have := T.new3; omega) (by have := T.new4; omega) (fun w1 r c' w' b' E hc hS => kid_vow T hH.1 w1 r c' w' b' E hc hS i2)
   have hP : Gp c w bw z (Lq bw n forks q1 q3 q4) (i + 1) (vow A n c w bw i t :: kids) (parC g2 (vow A n c w bw i t) bw i q1 q2 q3 q4) w₁ := gp_spawn T i2 hH.1 hH.2.own
   show ScS link.tWg Tryz.prog FinN .work (parC g2 (vow A n c w bw i t) bw i q1 q2 q3 q4) _ _
   generalize parC g2 (vow A n c w bw i t) bw i q1 q2 q3 q4 = g3 at hP ⊢
   clear hH rl rl2 hAdd e hcur hkids hsp
   walk_nrm
   have rl : ∀ {y y' : World}, Gp c w bw z (Lq bw n forks q1 q3 q4) (i + 1) (vow A n c w bw i t :: kids) g3 y -> Rely link.tWg g3 y y' -> Gp c w bw z (Lq bw n forks q1 q3 q4) (i + 1) (vow A n c w bw i t :: kids) g3 y' := fun h r => gp_rely h S o3 o4 r
   refine goes_run 60 (.inl rfl) rfl hP.snug ?_
   u_c stepG_region_end rl hP
   u_c stepG_inBlock rl hP
   u_reg rl hP
   u_op rl hP
   u_op rl hP
   u_c stepG_region_end rl hP
   u_c stepG_inLoop rl hP
   refine Goes.stop (fun w₂ h₁ => ?_)
   replace hP := rl hP h₁
   clear h₁
   refine K _ g3 w₂ ?_ hP
   rcases i2 with rfl | rfl <;> exact ⟨rfl, rfl, rfl, rfl, rfl, rfl, rfl, rfl⟩
 exact hE
end
end
section
variable {A : Nat -> Prop} {n : Nat} {c : Cfg} {w : World} {bw z : Nat} {g : Cfg} {x y : World} {q1 q2 q3 q4 : Nat} {tl tr : Tr} {L : List (Nat × Value)} {l : List (Perm × Perm)}
theorem oks_two {V1 V0 : Vow} (hk : g.kids = [V1, V0]) (h : Oks g l y) : ∃ p1 p0 : Perm × Perm, l = [p1, p0] /\ V1.ok p1.1 p1.2 y /\ V0.ok p0.1 p0.2 y := by
 obtain ⟨h1, h2⟩ := h
 rw [hk] at h1 h2
 rcases l with _ | ⟨p1, _ | ⟨p0, _ | ⟨p, l⟩⟩⟩
 · simp at h1
 · simp at h1
 · exact ⟨p1, p0, rfl, h2 (p1, V1) (by simp), h2 (p0, V0) (by simp)⟩
 · simp at h1
theorem any_two {p1 p0 : Perm × Perm} {pick : Perm × Perm -> Perm} {a : Addr} : anyOf [p1, p0] pick a ↔ pick p1 a ∨ pick p0 a := by
 simp [anyOf]
theorem join_snug (S : Snug c w) (o3 : c.own ⟨bw, 3, none⟩) (o4 : c.own ⟨bw, 4, none⟩) (h : Gp c w bw z L 2 [vow A n c w bw 1 tr, vow A n c w bw 0 tl] g x) (F : Fz link.tWg g z x y) (hO : Oks g l y) : Snug (joined g l) y := by
 have hg := h.cfg
 obtain ⟨p1, p0, rfl, k1, k0⟩ := oks_two (V1 := vow A n c w bw 1 tr) (V0 := vow A n c w bw 0 tl) (by rw [hg]) hO
 have hup : g.up = c.up := by rw [hg]
 refine ⟨fun a ha => ?_, fun z' hz => (by cases hz), fun z' v hz => ?_⟩
 · rcases ha with (ha | ha) | (ha | ha)
   · exact F.2.2.low a (.inl ha)
   · exact (any_two.1 ha).elim (fun e => k1.2.2.2.1 a (.inl e)) fun e => k0.2.2.2.1 a (.inl e)
   · exact F.2.2.low a (.inr ha)
   · exact (any_two.1 ha).elim (fun e => k1.2.2.2.1 a (.inr e)) fun e => k0.2.2.2.1 a (.inr e)
 · have hz' : c.up = some (z', v) := hup ▸ hz
   obtain ⟨hlt, hno⟩ := S.up z' v hz'
   refine ⟨Nat.lt_of_lt_of_le hlt (Nat.le_trans h.size F.1.size), fun a e ha => ?_⟩
   have hown : ∀ q : Addr, (q = ⟨bw, 3, none⟩ ∨ q = ⟨bw, 4, none⟩) -> c.own q := fun q hq => by rcases hq with rfl | rfl <;> assumption
   have key : c.own a ∨ c.rd a ∨ w.heap.size <= a.block := by
     rcases ha with (ha | ha) | (ha | ha)
     · exact (h.own' a ha).imp id .inr
     · rcases any_two.1 ha with e | e
       · exact (k1.2.1 a e).elim (fun e => .inl (hown a (.inr e))) fun e => .inr (.inr e)
       · exact (k0.2.1 a e).elim (fun e => .inl (hown a (.inl e))) fun e => .inr (.inr e)
     · exact (h.rd' a ha).elim (fun e => .inr (.inl e)) fun e => e.elim .inl fun e => .inr (.inr e)
     · rcases any_two.1 ha with e | e
       · exact (k1.2.2.1 a e).elim (fun e => .inr (.inl e)) fun e => e.elim .inl fun e => .inr (.inr e)
       · exact (k0.2.2.1 a e).elim (fun e => .inr (.inl e)) fun e => e.elim .inl fun e => .inr (.inr e)
   rcases key with k | k | k
   · exact hno a e (.inl k)
   · exact hno a e (.inr k)
   · omega
theorem join_ext (S : Snug c w) (hC : Calm c) (o3 : c.own ⟨bw, 3, none⟩) (o4 : c.own ⟨bw, 4, none⟩) (h : Gp c w bw z L 2 [vow A n c w bw 1 tr, vow A n c w bw 0 tl] g x) (F : Fj link.tWg g z x l y) :
   ∃ bl br, ExtX link.tWg (Two bw) c w (joined g l) y /\ y.cell? ⟨bw, 3, none⟩ = some (.pointer (ptr bl)) /\ y.cell? ⟨bw, 4, none⟩ = some (.pointer (ptr br)) /\ Sd nodeT (dgw n) (Off A (joined g l) bw) y tl bl /\ Sd nodeT (dgw n) (Off A (joined g l) bw) y tr br := by
 obtain ⟨w1, F1, hO, r, S2⟩ := F
 have hg := h.cfg
 obtain ⟨p1, p0, rfl, k1, k0⟩ := oks_two (V1 := vow A n c w bw 1 tr) (V0 := vow A n c w bw 0 tl) (by rw [hg]) hO
 obtain ⟨a1, a2, a3, a4, br, a5, a6⟩ := k1
 obtain ⟨d1, d2, d3, d4, bl, d5, d6⟩ := k0
 have hup : g.up = c.up := by rw [hg]
 have hown : ∀ a, c.own a -> (joined g [p1, p0]).own a := fun a ha => by
   by_cases e3 : a = ⟨bw, 3, none⟩
   · subst e3; exact .inr (any_two.2 (.inr d1))
   by_cases e4 : a = ⟨bw, 4, none⟩
   · subst e4; exact .inr (any_two.2 (.inl a1))
   exact .inl (h.own a ha (fun _ => e3) (fun _ => e4))
 have sub1 : ∀ b, (∀ a : Addr, a.block = b -> p1.1 a ∨ p1.2 a) -> ∀ a : Addr, a.block = b -> (joined g [p1, p0]).own a ∨ (joined g [p1, p0]).rd a := fun b hb a e => (hb a e).imp (fun e => .inr (any_two.2 (.inl e))) fun e => .inr (any_two.2 (.inl e))
 have sub0 : ∀ b, (∀ a : Addr, a.block = b -> p0.1 a ∨ p0.2 a) -> ∀ a : Addr, a.block = b -> (joined g [p1, p0]).own a ∨ (joined g [p1, p0]).rd a := fun b hb a e => (hb a e).imp (fun e => .inr (any_two.2 (.inr e))) fun e => .inr (any_two.2 (.inr e))
 refine ⟨bl, br, ⟨?_, hown, fun a ha => ?_, fun a ha => .inl (h.rd a ha), fun a ha => ?_, Nat.le_trans h.size (Nat.le_trans F1.1.size r.size), fun a ha hn => ?_, fun b s hs => r.shape b s (F1.1.shape b s (h.shape b s hs)), fun z' hz => ?_, fun z' v hz hl => ?_,
   r.os.trans (F1.1.os.trans h.os), r.tape.trans (F1.1.tape.trans h.tape), r.output.trans (F1.1.output.trans h.output), S2⟩, (r.same _ (.inl (hown _ o3))).cell.trans d5, (r.same _ (.inl (hown _ o4))).cell.trans a5, ?_, ?_⟩
 · have h1 := hC.deaf
   have h2 := hC.pend
   have h3 := hC.cur
   have h4 := hC.kids
   have h5 := hC.ub
   cases g
   cases c
   simp only at h1 h2 h3 h4 h5
   subst h1 h2 h3 h4 h5
   simp only [Cfg.mk.injEq, true_and] at hg
   obtain ⟨rfl, rfl, rfl, rfl, rfl, -, rfl⟩ := hg
   rfl
 · rcases ha with ha | ha
   · exact h.own' a ha
   · rcases any_two.1 ha with e | e
     · exact (a2 a e).imp (fun e => by subst e; exact o4) id
     · exact (d2 a e).imp (fun e => by subst e; exact o3) id
 · rcases ha with ha | ha
   · exact h.rd' a ha
   · exact (any_two.1 ha).elim (a3 a) (d3 a)
 · refine ((h.same a ha hn).trans (F1.1.same a ?_)).trans (r.same a ?_)
   · exact ha.imp (fun ha => h.own a ha (fun _ e => hn (.inl e)) (fun _ e => hn (.inr e))) (h.rd a)
   · exact ha.imp (hown a) fun ha => .inl (h.rd a ha)
 · have := hC.cur
   rw [this] at hz
   cases hz
 · have hz' : g.up = some (z', v) := by rw [hup]; exact hz
   exact r.up z' v hz' (F1.1.up z' v hz' (h.up z' v hz hl))
 · exact (d6.same fun a ha => r.same a (sub0 _ ha.1.2 a rfl)).mono fun b hb => ⟨⟨hb.1.1, sub0 b hb.1.2⟩, hb.2⟩
 · exact (a6.same fun a ha => r.same a (sub1 _ ha.1.2 a rfl)).mono fun b hb => ⟨⟨hb.1.1, sub1 b hb.1.2⟩, hb.2⟩
section
variable {FinN : Perm -> Perm -> Goroutine -> World -> Prop} {b : Frame} {cs : List Frame}
set_option maxRecDepth 20000 in
set_option maxHeartbeats 8000000 in
theorem kid_wait {a : Act} (S : Snug c w) (hC : Calm c) (o3 : c.own ⟨bw, 3, none⟩) (o4 : c.own ⟨bw, 4, none⟩)
   (hG : Gp c w bw z L 2 [vow A n c w bw 1 tr, vow A n c w bw 0 tl] g x) (ha : Ag q1 q3 q4 z 2 a) (K : SidesK A link.tWg FinN n tl tr bw c w b cs) :
   ScS link.tWg Tryz.prog FinN .work g (G ((base 63).at a [.code kidLb, .inLoop kidLb, .inBlock 2, .code waitR]) (b :: cs)) x := by
 obtain ⟨T, ds⟩ := a
 obtain ⟨ts, df, t3, t4, t5, t8, t27, t28⟩ := ha
 replace df : ds = [] := df
 subst df
 obtain ⟨v0, v1, v2, v3, v4, v5, v6, v7, v8, v9, v10, v11, v12, v13, v14, v15, v16, v17, v18, v19, v20, v21, v22, v23, v24, v25, v26, v27, v28, v29, v30, v31, v32, v33, v34, rfl⟩ := array35 T ts
 simp only []
 simp only [Array.getD_eq_getD_getElem?, List.getElem?_toArray, List.getElem?_cons_succ, List.getElem?_cons_zero, Option.getD_some] at t3 t4 t5 t8 t27 t28
 subst t3 t4 t5 t8 t27 t28
 have rl : ∀ {y y' : World}, Gp c w bw z L 2 [vow A n c w bw 1 tr, vow A n c w bw 0 tl] g y -> Rely link.tWg g y y' -> Gp c w bw z L 2 [vow A n c w bw 1 tr, vow A n c w bw 0 tl] g y' := fun h r => gp_rely h S o3 o4 r
 have hE : ScS link.tWg Tryz.prog FinN .work g (G ((base 63).at ⟨#[v0, v1, v2, .pointer (some ⟨q1, 0, none⟩), .pointer (some ⟨q3, 0, none⟩), .pointer (some ⟨q4, 0, none⟩), v6, v7, .pointer (some ⟨z, 0, none⟩), v9, v10, v11, v12, v13, v14, v15, v16, v17, v18, v19, v20, v21, v22, v23, v24, v25, v26, .int .i64 2, .int .i64 ((2 : Nat) : Int), v29, v30, v31, v32, v33, v34], []⟩ [.code kidLb, .inLoop kidLb, .inBlock 2, .code waitR]) (b :: cs)) x := by
   simp only [kidLb, waitR, sidesTail, sidesRest, Tryz.f63, Option.getD_some]
   refine goes_run 60 (.inl rfl) rfl hG.snug ?_
   u_c stepG_seq rl hG
   u_reg rl hG
   u_op rl hG
   u_c stepG_region_end rl hG
   u_c stepG_seq rl hG
   u_cond false rl hG
   u_exit rl hG
   u_reg rl hG
   u_in rl hG
   refine goes_call rfl rfl (by k_ne) rfl wgLib.f_wait (nm_wait link) rfl ⟨by u_nil, ?_⟩
   walk_nrmf waitFn
   refine Goes.stop (fun w₁ h₁ => ?_)
   replace hG := rl hG h₁
   clear h₁
   have hcur : g.cur = some z := by rw [hG.cfg]
   have e := cf_calm hC hG
   have hW := @waitS link Tryz.prog FinN g z w₁ ((base 63))
   have hW2 := fun a₀ ops₀ i₀ rest₀ k₀ cs h1 h2 h3 => @hW a₀ ops₀ i₀ rest₀ k₀ cs wgLib hcur h1 h2 2 (by omega) w₁ h3
   rw [e] at hW2
   refine hW2 _ _ _ _ _ _ (fun l w' F hO => join_snug S o3 o4 hG F hO) (fun l y F => ?_) ⟨.refl _ _ _, hG.live, hG.snug⟩
   simp only [List.getElem?_toArray, List.getElem?_cons_zero, Option.bind_some]
   walk_nrm
   have hS2 : Snug (joined g l) y := F.choose_spec.2.2.2
   refine goes_run 60 (.inl rfl) rfl hS2 ?_
   u_c stepG_region_end fj_rely F
   u_c stepG_end fj_rely F
   refine Goes.stop (fun w₂ h₁ => ?_)
   replace F := fj_rely F h₁
   obtain ⟨bl, br, E, c3, c4, s3, s4⟩ := join_ext S hC o3 o4 hG F
   exact ScS.ctl rfl rfl rfl E.snug (fun w₁ => stepG_leave rfl rfl Tryz.func63 (results_none (fn := Tryz.f63) rfl _ _ _) (events_results_none (fn := Tryz.f63) rfl _ _)) (K _ _ bl br E c3 c4 s3 s4)
 exact hE
set_option maxRecDepth 20000 in
set_option maxHeartbeats 8000000 in
theorem sides_okS {forks : Nat} (hforks : forks = 0 ∨ forks = 1 ∨ forks = 2) {tl tr : Tr} (h1 : SealOk link.tWg FinN n forks tl) (h2 : SealOk link.tWg FinN n forks tr) : SidesOk link.tWg FinN n (forks + 1) tl tr := by
 intro A c w bw bl br b cs hC S hA hlow o3 o4 r3 r4 e3 e4 t3 t4 N1 N2 K
 refine sides_boxes (forks + 1) S ?_
 intro q1 q3 q4 c1 x1 _ _ _ hB
 have b1 := (hB.bx q1 _ (.tail _ (.tail _ (.head _)))).new
 have b3 := (hB.bx q3 _ (.tail _ (.head _))).new
 have b4 := (hB.bx q4 _ (.head _)).new
 have hT : ∀ q2, (q1 ≠ q2) -> (q3 ≠ q2) -> (q4 ≠ q2) -> w.heap.size <= q2 -> At c w bw q1 q2 q3 q4 := fun q2 d1 d3 d4 d => ⟨S, hC, o3, o4, r3, r4, d1, d3, d4, d, b1, b3, b4⟩
 have hE : ScS link.tWg Tryz.prog FinN .work c1 (G ((base 63).at ⟨#[.slice (some ⟨bw, 3, none⟩) 2 2, .int .i64 n, .int .i64 ((forks + 1 : Nat) : Int), .pointer (some ⟨q1, 0, none⟩), .pointer (some ⟨q3, 0, none⟩), .pointer (some ⟨q4, 0, none⟩), undef, undef, undef, undef, undef, undef, undef, undef, undef, undef, undef, undef, undef, undef, undef, undef, undef, undef, undef, undef, undef, undef, undef, undef, undef, undef, undef, undef, undef], []⟩ [.code sidesRest]) (b :: cs)) x1 := by
   have hk := fun {kids} {g} {x} {t} {bs} {z} {i} {a} => @kid_iter A n c w bw z i kids g x q1 q3 q4 t bs FinN b cs forks a
   have hw := fun {z} {g} {x} {a} => @kid_wait A n c w bw z g x q1 q3 q4 tl tr (Lq bw n forks q1 q3 q4) FinN b cs a S hC o3 o4
   simp only [kidLb, waitR, sidesTail, sidesRest, Tryz.f63, Option.getD_some] at hk hw ⊢
   refine goes_run 60 (.inl rfl) rfl hB.ext.snug ?_
   u_c stepG_seq bd_rely hB
   u_c stepG_seq bd_rely hB
   u_reg bd_rely hB
   refine Goes.stop (fun w₁ h₁ => ?_)
   replace hB := bd_rely hB h₁
   clear h₁
   refine ScS.read (v := .int .i64 ((forks + 1 : Nat) : Int)) rfl hB.ext.snug rfl (by rfl) (by k_ne) (fun w₁ h₁ => ?_) ?_
   · have hq := (bd_rely hB h₁).bx q4 _ (List.mem_cons_self)
     have hc := hq.cell
     exact ⟨by go_simp, fun e he => by simp [go_sem, hc] at he; subst he; exact ⟨_, rfl, .inl hq.own⟩⟩
   walk_nrm
   refine ScS.read (v := .bool false) rfl hB.ext.snug rfl (by rfl) (by k_ne) (fun w₁ h₁ => ⟨by rcases hforks with rfl | rfl | rfl <;> (go_simp <;> rfl), fun e he => by simp [go_sem] at he⟩) ?_
   walk_nrm
   refine goes_run 60 (.inl rfl) rfl hB.ext.snug ?_
   u_c stepG_region_end bd_rely hB
   u_cond false bd_rely hB
   u_c stepG_skip bd_rely hB
   u_c stepG_seq bd_rely hB
   u_reg bd_rely hB
   refine Goes.stop (fun w₁ h₁ => ?_)
   replace hB := bd_rely hB h₁
   clear h₁
   refine ScS.group (w := w) (bw := bw) rfl S hC o3 o4 hB rfl (by rfl) (by k_ne) (fun w₁ => ⟨by go_simp <;> rfl, fun e he => by simp [go_sem, Hush.zeroValue _ _] at he⟩) ?_
   intro z g0 x0 hz hG
   clear hB
   walk_nrm
   have rl : ∀ {y y' : World}, Gp c w bw z (Lq bw n forks q1 q3 q4) 0 [] g0 y -> Rely link.tWg g0 y y' -> Gp c w bw z (Lq bw n forks q1 q3 q4) 0 [] g0 y' := fun h r => gp_rely h S o3 o4 r
   refine goes_run 60 (.inl rfl) rfl hG.snug ?_
   u_c stepG_region_end rl hG
   u_c stepG_seq rl hG
   u_c stepG_seq rl hG
   u_reg rl hG
   refine Goes.stop (fun w₁ h₁ => ?_)
   replace hG := rl hG h₁
   clear h₁
   refine ScS.read (v := .slice (some ⟨bw, 3, none⟩) 2 2) rfl hG.snug rfl (by rfl) (by k_ne) (fun w₁ h₁ => ?_) ?_
   · have hq := ((rl hG h₁).bx q1 _ (.tail _ (.tail _ (.head _)))).1
     have hc := hq.2
     exact ⟨by go_simp, fun e he => by simp [go_sem, hc] at he; subst he; exact ⟨_, rfl, hq.1⟩⟩
   walk_nrm
   refine goes_run 60 (.inl rfl) rfl hG.snug ?_
   u_op rl hG
   u_op rl hG
   u_c stepG_region_end rl hG
   u_c stepG_block rl hG
   u_c stepG_loop rl hG
   refine Goes.stop (fun w₁ h₁ => ?_)
   replace hG := rl hG h₁
   clear h₁
   refine hk h1 hforks hT S hC o3 o4 (.inl rfl) hA e3 t3 N1 (by simp) hG ⟨rfl, rfl, rfl, rfl, rfl, rfl, rfl, rfl⟩ ?_
   intro a2 g2 x2 ha2 hG2
   refine hk h2 hforks hT S hC o3 o4 (.inr rfl) hA e4 t4 N2 (by simp) hG2 ha2 ?_
   intro a3 g3 x3 ha3 hG3
   exact hw hG3 ha3 K
 exact hE
end
theorem seal_all {FinN : Perm -> Perm -> Goroutine -> World -> Prop} (hn : n <= 32) : ∀ (t : Tr), Wf t -> ∀ forks, forks <= 3 -> SealOk link.tWg FinN n forks t := by
 intro t
 induction t with
 | empty => exact fun hW forks _ => seal_ok hn forks _ hW fun p tl tr e => by cases e
 | leaf p v => exact fun hW forks _ => seal_ok hn forks _ hW fun p tl tr e => by cases e
 | branch p l r ihl ihr =>
   intro hW forks hf
   refine seal_ok hn forks _ hW fun p' tl tr e => ?_
   cases e
   cases forks with
   | zero => exact sides_ok0 (ihl hW.2.1 0 (by omega)) (ihr hW.2.2 0 (by omega))
   | succ f => exact sides_okS (by omega) (ihl hW.2.1 f (by omega)) (ihr hW.2.2 f (by omega))
end
section
variable {FinN : Perm -> Perm -> Goroutine -> World -> Prop} {n : Nat} {c : Cfg} {w : World} {b : Frame} {cs : List Frame} {A D : Nat -> Prop} {t : Tr}
def Sx (A : Nat -> Prop) (n : Nat) (t : Tr) (b' : Nat) (c' : Cfg) (x : World) : Prop := Sd nodeT (dgw n) (fun y => (0 <= y /\ ¬ A y) /\ ∀ a : Addr, a.block = y -> c'.own a ∨ c'.rd a) x t b'
def Sp (A : Nat -> Prop) (n : Nat) (c : Cfg) (w : World) (t : Tr) (b' : Nat) (c' : Cfg) (x : World) : Prop := ExtX link.tWg (fun _ => False) c w c' x /\ Sx A n t b' c' x
theorem sp_rely {b' : Nat} {c' : Cfg} {x y : World} (h : Sp A n c w t b' c' x) (r : Rely link.tWg c' x y) : Sp A n c w t b' c' y := ⟨h.1.go r, h.2.same fun a ha => r.same a (ha.2 a rfl)⟩
abbrev dnC (D : Nat -> Prop) (c : Cfg) : Cfg := { c with own := fun a => c.own a /\ ¬ D a.block, rd := fun a => c.rd a ∨ D a.block }
def Nx0 (A D : Nat -> Prop) (n : Nat) (t : Tr) (b0 : Nat) (c : Cfg) (w x : World) : Prop := Rely link.tWg (dnC D c) w x /\ Snug (dnC D c) x /\ Nd nodeT (dgw n) (Rr A (dnC D c)) x t b0
theorem nx0_rely {b0 : Nat} {x y : World} (h : Nx0 A D n t b0 c w x) (r : Rely link.tWg (dnC D c) x y) : Nx0 A D n t b0 c w y := ⟨h.1.trans _ r, h.2.1.rely r, h.2.2.same fun a ha => r.same a (ha.2 a rfl)⟩
set_option maxRecDepth 20000 in
set_option maxHeartbeats 4000000 in
theorem sealed_main (hn : n <= 32) (hW : Wf t) {b0 : Nat} (hm : c.main = true) (hC : Calm c) (S : Snug c w) (hA : ∀ x, A x -> x < w.heap.size) (hD : ∀ y, D y -> Rof c y) (hN : Nd nodeT (dgw n) (fun y => (0 <= y /\ ¬ A y) /\ D y) w t b0)
   (K : ∀ c' w' b', Over link.tWg c w c' w' -> Sd nodeT (dgw n) (fun y => (0 <= y /\ ¬ A y) /\ ∀ a : Addr, a.block = y -> c'.own a) w' t b' -> ScS link.tWg Tryz.prog FinN .work c' (G (b.finish (.pointer (ptr b'))) cs) w') :
   ScS link.tWg Tryz.prog FinN .work c (live (Frame.enter Tryz.prog 37 #[.pointer (ptr b0), .int .i64 n] .normal) (b :: cs)) w := by
 have hsub : ∀ a, (dnC D c).own a ∨ (dnC D c).rd a -> c.own a ∨ c.rd a := fun a h => h.elim (fun h => .inl h.1) fun h => h.elim .inr fun h => hD _ h a rfl
 have hF : Nx0 A D n t b0 c w w := ⟨.refl _ _ _, ⟨fun a h => S.low a (hsub a h), fun z hz => ⟨(S.cur z hz).1, fun a e h => (S.cur z hz).2 a e (hsub a h)⟩, fun z v hz => ⟨(S.up z v hz).1, fun a e h => (S.up z v hz).2 a e (hsub a h)⟩⟩,
   hN.mono fun y hy => ⟨⟨hy.1, fun a e => ⟨.inr (e ▸ hy.2), fun h => h.2 (e ▸ hy.2)⟩⟩, fun a e => .inr (.inr (e ▸ hy.2))⟩⟩
 rw [enter_at _ Tryz.func37 (by rfl)]
 walk_nrmf Tryz.f37
 show ScS link.tWg Tryz.prog FinN .work c (G _ _) w
 simp only [ptr]
 refine ScS.turn (own' := fun a => c.own a /\ ¬ D a.block) (rd' := fun a => c.rd a ∨ D a.block) rfl rfl rfl hm hC.cur S (fun w₁ => stepG_seq) (fun a h => .inl h.1) (fun a h => h.elim .inr fun h => hD _ h a rfl) ?_
 show ScS link.tWg Tryz.prog FinN .work (dnC D c) _ _
 refine goes_run 60 (.inl rfl) rfl hF.2.1 ?_
 u_reg nx0_rely hF
 u_op nx0_rely hF
 u_c stepG_region_end nx0_rely hF
 u_c stepG_seq nx0_rely hF
 u_reg nx0_rely hF
 u_op nx0_rely hF
 u_op nx0_rely hF
 refine Goes.stop (fun w₁ h₁ => ?_)
 replace hF := nx0_rely hF h₁
 clear h₁
 refine ScS.enter rfl hF.2.1 rfl (by rfl) (by k_ne) rfl Tryz.func50 (by rfl) rfl ?_
 walk_nrm
 have hcalm : Calm (dnC D c) := ⟨hC.deaf, hC.cur, hC.pend, hC.kids, hC.ub⟩
 refine seal_all hn t hW 3 (Nat.le_refl 3) A (dnC D c) w₁ b0 _ _ hcalm hF.2.1 (fun x hx => Nat.lt_of_lt_of_le (hA x hx) hF.1.size) hF.2.2 ?_
 intro c' w' b' E hS
 rw [Frame.finish_at]
 walk_nrm
 have hE : ExtX link.tWg (fun _ => False) (dnC D c) w c' w' := ((ExtX.refl (X := fun _ => False) (S := ⟨fun a h => S.low a (hsub a h), fun z hz => ⟨(S.cur z hz).1, fun a e h => (S.cur z hz).2 a e (hsub a h)⟩, fun z v hz => ⟨(S.up z v hz).1, fun a e h => (S.up z v hz).2 a e (hsub a h)⟩⟩)).go hF.1).trans E (fun _ e => e.elim)
 have hP : Sp A n (dnC D c) w t b' c' w' := ⟨hE, hS⟩
 clear hS E hE hF
 simp only [ptr]
 refine goes_run 60 (.inl rfl) rfl hP.1.snug ?_
 u_op sp_rely hP
 u_c stepG_region_end sp_rely hP
 refine Goes.stop (fun w₂ h₁ => ?_)
 replace hP := sp_rely hP h₁
 clear h₁
 have hcf := hP.1.cfg
 have hm' : c'.main = true := by rw [hcf]; exact hm
 have hcur' : c'.cur = none := by rw [hcf]; exact hC.cur
 refine ScS.turn (own' := fun a => c'.own a ∨ c'.rd a) (rd' := c'.rd) rfl rfl rfl hm' hcur' hP.1.snug (fun w₁ => stepG_ret') (fun a h => h) (fun a h => .inr h) ?_
 have hcov : ∀ a, c.own a ∨ c.rd a -> (dnC D c).own a ∨ (dnC D c).rd a := fun a h => by
   by_cases hd : D a.block
   · exact .inr (.inr hd)
   · exact h.imp (fun h => ⟨h, hd⟩) .inl
 have hO : Over link.tWg c w { c' with own := fun a => c'.own a ∨ c'.rd a, rd := c'.rd } w₂ := by
   refine ⟨by rw [hcf], fun a h => (hcov a h).imp (hP.1.own a) (hP.1.rd a), fun a h => ?_, hP.1.size, fun a h => hP.1.same a (hcov a h) (fun e => e), hP.1.shape, hP.1.up, hP.1.os, hP.1.tape, hP.1.output, ⟨fun a h => hP.1.snug.low a (h.elim id .inr), fun z hz => ?_, fun z v hz => ?_⟩⟩
   · rcases h with h | h
     · exact (hP.1.own' a h).elim (fun h => (hsub a (.inl h)).imp id .inl) fun h => .inr (.inr h)
     · rcases hP.1.rd' a h with h | h | h
       · exact (hsub a (.inr h)).imp id .inl
       · exact (hsub a (.inl h)).imp id .inl
       · exact .inr (.inr h)
   · exact ⟨(hP.1.snug.cur z hz).1, fun a e h => (hP.1.snug.cur z hz).2 a e (h.elim id .inr)⟩
   · exact ⟨(hP.1.snug.up z v hz).1, fun a e h => (hP.1.snug.up z v hz).2 a e (h.elim id .inr)⟩
 exact ScS.ctl rfl rfl rfl hO.snug (fun w₁ => stepG_leave rfl rfl Tryz.func37 (results_tmp (t := 4) rfl _ _ _) (events_results_tmp (t := 4) rfl _ _)) (K _ _ b' hO hP.2)
end
structure Grew (u u' : World) : Prop where
 size : u.heap.size <= u'.heap.size
 old : ∀ y, y < u.heap.size -> u'.heap[y]? = u.heap[y]?
 os : u'.os = u.os
def SealedOrc : Oracle := fun f args u Post => f = 37 /\ ∃ (n b0 : Nat) (t : Tr), n <= 32 /\ Wf t /\ args = #[.pointer (ptr b0), .int .i64 n] /\ Nd nodeT (dgw n) (fun _ => True) u t b0 /\
 Post = fun x u' => ∃ b', x = .pointer (ptr b') /\ Grew u u' /\ Sd nodeT (dgw n) (fun _ => True) u' t b'
def MainC (c : Cfg) : Prop := c.main = true /\ Calm c
end Go.Proofs.YtddcbeeldjjmeaaGreat
namespace Go.Proofs
open Go.Shelf
def Tryz.lays316_ren : Go.Shelf.Ren := ⟨fun | 316 => 40 | n => n, fun | 9 => 9 | 3 => 3 | 4 => 4 | 37 => 93 | 0 => 0 | 127 => 99 | 5 => 5 | n => n, fun | n => n⟩
theorem Tryz.lays316 : Go.Proofs.LaysM.n316 Tryz.prog Tryz.lays316_ren := {
 mixed := by kernel_rfl
 f316 := Tryz.func40.trans (congrArg some (by kernel_rfl))
 t0 := Tryz.underlying0
 a0 := Tryz.isAgg0
 z0 := Tryz.sizeOf0
 v0 := Tryz.zeroValue0
 t3 := Tryz.underlying3
 a3 := Tryz.isAgg3
 z3 := Tryz.sizeOf3
 v3 := Tryz.zeroValue3
 t4 := Tryz.underlying4
 a4 := Tryz.isAgg4
 z4 := Tryz.sizeOf4
 v4 := Tryz.zeroValue4
 t9 := Tryz.underlying9
 a9 := Tryz.isAgg9
 z9 := Tryz.sizeOf9
 v9 := Tryz.zeroValue9
 t37 := Tryz.underlying93
 a37 := Tryz.isAgg93
 z37 := Tryz.sizeOf93
 v37 := Tryz.zeroValue93
 t127 := Tryz.underlying99
 a127 := Tryz.isAgg99
 z127 := Tryz.sizeOf99
 v127 := Tryz.zeroValue99
 t5 := Tryz.underlying5
 a5 := Tryz.isAgg5
 z5 := Tryz.sizeOf5
 v5 := Tryz.zeroValue5
 i0 := by kernel_rfl
 i3 := by kernel_rfl
 i4 := by kernel_rfl
 i5 := by kernel_rfl
 i9 := by kernel_rfl
 i37 := by kernel_rfl
 i127 := by kernel_rfl }
end Go.Proofs
namespace Go.Proofs.YtddcbeeldjjmeaaGreat
open Go Go.RowKit Go.Nest Go.Tm
set_option linter.unusedVariables false
set_option linter.unusedSimpArgs false
theorem leaf_any (p v : ByteArray) (w : World) :
   Calls Tryz.prog 58 #[.string p, .string v] w fun e w' => ∃ b, e = .returned (.pointer (ptr b)) /\ NodeAt 89 w' b 0 p v none none 0 false /\ Below w.heap.size w w' := by
 go_enter Tryz.func58, Tryz.ntmps58
 go_wp2
 go_ret
 exact ⟨w.heap.size, rfl, ⟨(0, 0), heap_alloc_new w _⟩, (Below.refl _ _).alloc (Nat.le_refl _) _⟩
theorem empty_any (w : World) :
   Calls Tryz.prog 43 #[] w fun e w' => ∃ b, e = .returned (.pointer (ptr b)) /\ NodeAt 89 w' b 2 noText noText none none 0 false /\ Below w.heap.size w w' := by
 go_enter Tryz.func43, Tryz.ntmps43
 go_wp2
 go_ret
 exact ⟨w.heap.size, rfl, ⟨(0, 0), heap_alloc_new w _⟩, (Below.refl _ _).alloc (Nat.le_refl _) _⟩
def bit (s : Bool) : Int := if s then 1 else 0
def pick (s : Bool) (x y : Nat) : Nat := if s then y else x
set_option maxHeartbeats 1000000 in
theorem branch_any (p : ByteArray) (s : Bool) (x y : Nat) (w : World) :
   Calls Tryz.prog 60 #[.string p, .int .i64 (bit s), .pointer (ptr x), .pointer (ptr y)] w fun e w' => ∃ b, e = .returned (.pointer (ptr b)) /\ NodeAt 89 w' b 1 p noText (ptr (pick s x y)) (ptr (pick s y x)) 0 false /\ Below w.heap.size w w' := by
 simp only [ptr]
 cases s
 · simp only [bit, pick, Bool.false_eq_true, if_false]
   go_enter Tryz.func60, Tryz.ntmps60
   go_wp2
   go_region
   go_wp2
   go_ret
   refine ⟨w.heap.size, rfl, ⟨(0, 0), ?_⟩, ?_⟩
   · exact heap_alloc_new w _
   · exact ((Below.refl _ _).alloc (Nat.le_refl _) _).drew
 · simp only [bit, pick, if_true]
   go_enter Tryz.func60, Tryz.ntmps60
   go_wp2
   go_region
   go_wp2
   go_ret
   refine ⟨w.heap.size, rfl, ⟨(0, 0), ?_⟩, ?_⟩
   · exact heap_alloc_new w _
   · exact ((Below.refl _ _).alloc (Nat.le_refl _) _).drew
theorem sideOf_any (s : Bool) (p : Bits) (w : World) :
   Calls Tryz.prog 61 #[.string (str (s :: p))] w fun e w' => e = .returned (.int .i64 (bit s)) /\ ∃ n, w' = w.drewN n := by
 obtain ⟨t, ht⟩ : ∃ t, t = str (s :: p) := ⟨_, rfl⟩
 have h0 : 0 < t.size := by rw [ht, str_size]; simp
 have hc : t[0].toNat = 48 + s.toNat := by subst ht; rw [str_head, sg_nat]
 rw [<- ht]
 clear ht
 go_enter Tryz.func61, Tryz.ntmps61
 go_wp2
 go_quiet (fail)
 go_wp2
 go_ret
 refine ⟨?_, _, rfl⟩
 have e48 : ((({ data := #[48, 49] } : ByteArray)[0]'(by decide)).toNat : Int) = 48 := rfl
 cases s <;> simp [hc, bit, e48]
theorem sign_any (s : Bool) (w : World) :
   Calls Tryz.prog 52 #[.int .i64 (bit s)] w fun e w' => e = .returned (.string (str [s])) /\ w' = w := by
 cases s
 · simp only [bit, Bool.false_eq_true, if_false]
   go_enter Tryz.func52, Tryz.ntmps52
   go_wp2
   go_ret
   exact ⟨rfl, rfl⟩
 · simp only [bit, if_true]
   go_enter Tryz.func52, Tryz.ntmps52
   go_wp2
   go_ret
   exact ⟨rfl, rfl⟩
theorem NodeAt.lt {nt : TypeId} {w : World} {b : Nat} {kind : Int} {p v : ByteArray} {l r : Option Addr} {d : Int} {s : Bool} (h : NodeAt nt w b kind p v l r d s) : b < w.heap.size := by
 obtain ⟨fr, h⟩ := h
 exact (Array.getElem?_eq_some_iff.1 h).1
theorem NodeAt.cells {nt : TypeId} {w : World} {b : Nat} {kind : Int} {p v : ByteArray} {l r : Option Addr} {d : Int} {s : Bool} (h : NodeAt nt w b kind p v l r d s) :
   w.cell? ⟨b, 0, none⟩ = some (.int .i64 kind) /\ w.cell? ⟨b, 1, none⟩ = some (.string p) /\ w.cell? ⟨b, 2, none⟩ = some (.string v) /\ w.cell? ⟨b, 3, none⟩ = some (.pointer l) /\ w.cell? ⟨b, 4, none⟩ = some (.pointer r) /\ w.cell? ⟨b, 5, none⟩ = some (.int .i64 d) := by
 obtain ⟨fr, h⟩ := h
 refine ⟨?_, ?_, ?_, ?_, ?_, ?_⟩ <;> simp [World.cell?, h, nodeCells]
theorem NodeAt.below {nt : TypeId} {w w' : World} {b : Nat} {kind : Int} {p v : ByteArray} {l r : Option Addr} {d : Int} {s : Bool} (h : NodeAt nt w b kind p v l r d s) (B : Below w.heap.size w w') : NodeAt nt w' b kind p v l r d s := by
 have hlt := NodeAt.lt h
 obtain ⟨fr, h⟩ := h
 exact ⟨fr, by rw [B.block b hlt]; exact h⟩
theorem share_bytes {p q : Bits} {s1 s2 : ByteArray} {c : Nat} (h1 : s1 = str p) (h2 : s2 = str q) (hc : c = share p q) : c <= s1.size /\ c <= s2.size /\ (∀ k, k < c -> ∀ (a : k < s1.size) (b : k < s2.size), s1[k] = s2[k]) /\ ∀ (a : c < s1.size) (b : c < s2.size), s1[c] ≠ s2[c] := by
 subst h1 h2
 refine ⟨by rw [str_size, hc]; exact (share_le p q).1, by rw [str_size, hc]; exact (share_le p q).2, fun k hk a b => ?_, fun k1 k2 e => ?_⟩
 · rw [str_get, str_get]
   have := share_same p q k (hc ▸ hk)
   rw [str_size] at a b
   rw [List.getElem?_eq_getElem a, List.getElem?_eq_getElem b] at this
   rw [Option.some.inj this]
 · rw [str_get, str_get] at e
   rw [str_size] at k1 k2
   have := share_stop p q (hc ▸ k1) (hc ▸ k2)
   rw [<- hc, List.getElem?_eq_getElem k1, List.getElem?_eq_getElem k2] at this
   exact this (congrArg some (sg_inj e))
set_option maxHeartbeats 2000000 in
theorem shared_any (p q : Bits) (w : World) (hp : q.length <= 1000) :
   Calls Tryz.prog 59 #[.string (str p), .string (str q)] w fun e w' => e = .returned (.int .i64 (share p q)) /\ ∃ n, w' = w.drewN n := by
 obtain ⟨s1, h1⟩ : ∃ t, t = str p := ⟨_, rfl⟩
 obtain ⟨s2, h2⟩ : ∃ t, t = str q := ⟨_, rfl⟩
 obtain ⟨c, hc⟩ : ∃ c, c = share p q := ⟨_, rfl⟩
 obtain ⟨hle1, hle2, hsame, hstop⟩ := share_bytes h1 h2 hc
 have hc1 : c <= 1000 := by have := (share_le p q).2; omega
 rw [<- h1, <- h2, <- hc]
 clear h1 h2 hc
 go_enter Tryz.func59, Tryz.ntmps59
 go_wp2
 go_loopw [5] (fun i wr => ∃ k n : Nat, k <= c /\ i = .int .i64 k /\ wr = w.drewN n) (fun i _ => c - (intOf i).toNat)
 case atStart => exact ⟨0, 0, Nat.zero_le _, rfl, rfl⟩
 case round =>
   obtain ⟨k, n, hk, rfl, rfl⟩ := hrel
   by_cases hlt : k < c
   · have k1 : k < s1.size := by omega
     have k2 : k < s2.size := by omega
     have e := hsame k hlt k1 k2
     have e' : s1[k].toNat = s2[k].toNat := by rw [e]
     have hd : decide ((k : Int) < min (s1.size : Int) (s2.size : Int)) = true := decide_eq_true (by omega)
     go_wp2
     go_quiet (fail)
     go_wp2
     go_roundw
     case rel => exact ⟨k + 1, _, by omega, by go_num, rfl⟩
     case measure => simp [intOf]; omega
   · obtain rfl : k = c := by omega
     by_cases hk2 : k < s1.size /\ k < s2.size
     · obtain ⟨k1, k2⟩ := hk2
       have e := hstop k1 k2
       have e' : ¬ s1[k].toNat = s2[k].toNat := fun h => e (UInt8.toNat_inj.1 h)
       have hd : decide ((k : Int) < min (s1.size : Int) (s2.size : Int)) = true := decide_eq_true (by omega)
       go_wp2
       go_quiet (fail)
       go_wp2
       go_ret
       exact ⟨rfl, _, World.drewN_drewN _ _ _⟩
     · have hd : decide ((k : Int) < min (s1.size : Int) (s2.size : Int)) = false := decide_eq_false (by omega)
       go_wp2
       go_quiet (fail)
       go_wp2
       go_ret
       exact ⟨rfl, _, World.drewN_drewN _ _ _⟩
abbrev ndT : TypeId := 89
abbrev DG := Int -> ByteArray -> ByteArray -> Int -> Int -> Int
def All : Nat -> Prop := fun _ => True
theorem sd_below {dg : DG} {w w' : World} (B : Below w.heap.size w w') : ∀ {t : Tr} {b : Nat}, Sd ndT dg All w t b -> Sd ndT dg All w' t b
 | .branch _ _ _, _, ⟨h1, bl, br, h2, h3, h4⟩ => ⟨h1, bl, br, NodeAt.below h2 B, sd_below B h3, sd_below B h4⟩
 | .empty, _, ⟨h1, h2⟩ => ⟨h1, NodeAt.below h2 B⟩
 | .leaf _ _, _, ⟨h1, h2⟩ => ⟨h1, NodeAt.below h2 B⟩
theorem nd_below {dg : DG} {w w' : World} (B : Below w.heap.size w w') : ∀ {t : Tr} {b : Nat}, Nd ndT dg All w t b -> Nd ndT dg All w' t b
 | .branch _ _ _, _, ⟨h1, bl, br, d, s, h2, h3, h4, h5⟩ => ⟨h1, bl, br, d, s, NodeAt.below h2 B, nd_below B h3, nd_below B h4, fun x => ⟨(h5 x).1, sd_below B (h5 x).2.1, sd_below B (h5 x).2.2⟩⟩
 | .empty, _, ⟨h1, d, s, h2, h3⟩ => ⟨h1, d, s, NodeAt.below h2 B, h3⟩
 | .leaf _ _, _, ⟨h1, d, s, h2, h3⟩ => ⟨h1, d, s, NodeAt.below h2 B, h3⟩
theorem nd_lt {dg : DG} {w : World} : ∀ {t : Tr} {b : Nat}, Nd ndT dg All w t b -> b < w.heap.size
 | .branch _ _ _, _, ⟨_, _, _, _, _, h, _⟩ => NodeAt.lt h
 | .empty, _, ⟨_, _, _, h, _⟩ => NodeAt.lt h
 | .leaf _ _, _, ⟨_, _, _, h, _⟩ => NodeAt.lt h
theorem below_mono {w w' w'' : World} (h : Below w.heap.size w w') (k : Below w'.heap.size w' w'') : Below w.heap.size w w'' := h.trans (k.mono h.size)
def TAt (dg : DG) (w : World) (t : T ByteArray) (b : Nat) : Prop := Nd ndT dg All w t.tr b
theorem TAt.below {dg : DG} {w w' : World} {t : T ByteArray} {b : Nat} (h : TAt dg w t b) (B : Below w.heap.size w w') : TAt dg w' t b := nd_below B h
theorem TAt.lt {dg : DG} {w : World} {t : T ByteArray} {b : Nat} (h : TAt dg w t b) : b < w.heap.size := nd_lt h
theorem TAt.node {dg : DG} {w : World} {t : T ByteArray} {b : Nat} (h : TAt dg w t b) : ∃ l r d s, NodeAt ndT w b t.tr.kind (str t.path) t.tr.value l r d s /\
   (∀ q w' b', Below w.heap.size w w' -> NodeAt ndT w' b' t.tr.kind (str q) t.tr.value l r 0 false -> TAt dg w' (if t.isEmpty then .empty else t.moved q) b' ∨ t.isEmpty = true) := by
 cases t with
 | empty => obtain ⟨_, d, s, h1, h2⟩ := h; exact ⟨_, _, d, s, h1, fun q w' b' _ _ => .inr rfl⟩
 | leaf p v => obtain ⟨_, d, s, h1, h2⟩ := h; exact ⟨_, _, d, s, h1, fun q w' b' _ k => .inl ⟨trivial, 0, false, k, fun e => by cases e⟩⟩
 | branch p l r => obtain ⟨_, bl, br, d, s, h1, h2, h3, h4⟩ := h; exact ⟨_, _, d, s, h1, fun q w' b' B k => .inl ⟨trivial, bl, br, 0, false, k, nd_below B h2, nd_below B h3, fun e => by cases e⟩⟩
structure Fits (t : T ByteArray) (q : Bits) : Prop where
 rep : ∃ l, Rep l t /\ ∀ x, x ∈ l -> Apart q x.1
 short : q.length <= 1000
theorem Fits.side {p : Bits} {l r : T ByteArray} {s : Bool} {q : Bits} (h : Fits (.branch p l r) (p ++ s :: q)) : Fits (if s then r else l) q := by
 obtain ⟨⟨L, hL, hA⟩, hs⟩ := h
 cases hL with
 | @branch l0 l1 _ _ _ h0 h1 a0 a1 =>
   have hlen : q.length <= 1000 := by simp at hs; omega
   cases s with
   | true => exact ⟨⟨l1, a1, fun x hx => by
       have := hA (pre (p ++ [true]) x) (List.mem_append_right _ (List.mem_map.2 ⟨x, hx, rfl⟩))
       rw [show (pre (p ++ [true]) x).1 = p ++ (true :: x.1) by simp [pre]] at this
       exact Apart.pre (q := [true]) this.pre⟩, hlen⟩
   | false => exact ⟨⟨l0, a0, fun x hx => by
       have := hA (pre (p ++ [false]) x) (List.mem_append_left _ (List.mem_map.2 ⟨x, hx, rfl⟩))
       rw [show (pre (p ++ [false]) x).1 = p ++ (false :: x.1) by simp [pre]] at this
       exact Apart.pre (q := [false]) this.pre⟩, hlen⟩
theorem Fits.stand {t : T ByteArray} {q : Bits} (h : Fits t q) (hne : t.isEmpty = false) : (∃ p v, t = .leaf p v /\ q = p) ∨ (∃ p l r s q2, t = .branch p l r /\ q = p ++ s :: q2) ∨ ∃ q1 s x y, t.path = q1 ++ (!s) :: x /\ q = q1 ++ s :: y := by
 obtain ⟨⟨L, hL, hA⟩, hs⟩ := h
 cases hL with
 | empty => cases hne
 | leaf p v =>
   rcases hA (p, v) List.mem_cons_self with rfl | ⟨q1, s, x, y, rfl, e⟩
   · exact .inl ⟨q, v, rfl, rfl⟩
   · exact .inr (.inr ⟨q1, s, y, x, e, rfl⟩)
 | @branch l0 l1 _ _ p h0 h1 a0 a1 =>
   obtain ⟨z0, hz0⟩ := rep_ne a0 h0
   have h3 := hA (pre (p ++ [false]) z0) (List.mem_append_left _ (List.mem_map.2 ⟨z0, hz0, rfl⟩))
   rw [show (pre (p ++ [false]) z0).1 = p ++ (false :: z0.1) by simp [pre]] at h3
   rcases apart_stand h3 with ⟨x, rfl⟩ | ⟨q1, s, x, y, rfl, rfl⟩
   · cases x with
     | cons s q2 => exact .inr (.inl ⟨p, _, _, s, q2, rfl, rfl⟩)
     | nil =>
       exfalso
       rw [List.append_nil] at h3
       rcases h3 with h | ⟨q, s, x, y, e1, e2⟩
       · have := congrArg List.length h; simp at this
       · rw [e1] at e2
         simp only [List.append_assoc, List.cons_append, List.append_cancel_left_eq, List.cons.injEq] at e2
         cases s <;> cases e2.1
   · exact .inr (.inr ⟨q1, s, x, y, rfl, rfl⟩)
def NodeC (w : World) (b : Nat) (k : Int) (p v : ByteArray) (l r : Option Addr) : Prop := w.cell? ⟨b, 0, none⟩ = some (.int .i64 k) /\ w.cell? ⟨b, 1, none⟩ = some (.string p) /\ w.cell? ⟨b, 2, none⟩ = some (.string v) /\ w.cell? ⟨b, 3, none⟩ = some (.pointer l) /\ w.cell? ⟨b, 4, none⟩ = some (.pointer r)
theorem below_drewN (B : Nat) (w : World) (n : Nat) : Below B w (w.drewN n) := ⟨rfl, rfl, rfl, Nat.le_refl _, fun _ _ => rfl⟩
theorem cell_lt {w : World} {b : Nat} {v : Value} (h : w.cell? ⟨b, 0, none⟩ = some v) : b < w.heap.size := by
 by_cases hb : b < w.heap.size
 · exact hb
 · simp [World.cell?, Array.getElem?_eq_none (Nat.le_of_not_lt hb)] at h
theorem conj_lt {w : World} {b : Nat} {kind : Int} {p v : ByteArray} {l r : Option Addr} (h : w.cell? ⟨b, 0, none⟩ = some (.int .i64 kind) /\ w.cell? ⟨b, 1, none⟩ = some (.string p) /\ w.cell? ⟨b, 2, none⟩ = some (.string v) /\ w.cell? ⟨b, 3, none⟩ = some (.pointer l) /\ w.cell? ⟨b, 4, none⟩ = some (.pointer r)) : b < w.heap.size := cell_lt h.1
set_option maxHeartbeats 2000000 in
theorem moved_cells {b : Nat} {kind : Int} {p v : ByteArray} {l r : Option Addr} (q : ByteArray) (w : World) (h : w.cell? ⟨b, 0, none⟩ = some (.int .i64 kind) /\ w.cell? ⟨b, 1, none⟩ = some (.string p) /\ w.cell? ⟨b, 2, none⟩ = some (.string v) /\ w.cell? ⟨b, 3, none⟩ = some (.pointer l) /\ w.cell? ⟨b, 4, none⟩ = some (.pointer r)) :
   Calls Tryz.prog 62 #[.pointer (some ⟨b, 0, none⟩), .string q] w fun e w' => ∃ b', e = .returned (.pointer (ptr b')) /\ NodeAt ndT w' b' kind q v l r 0 false /\ Below w.heap.size w w' := by
 obtain ⟨h0, h1, h2, h3, h4⟩ := h
 have hb := cell_lt h0
 go_enter Tryz.func62, Tryz.ntmps62
 go_wp2_with fail
 go_region
 go_wp2_with fail
 go_ret
 exact ⟨w.heap.size, rfl, ⟨(0, 0), heap_alloc_new w _⟩, ((Below.refl _ _).alloc (Nat.le_refl _) _).drew⟩
set_option maxRecDepth 20000 in
set_option maxHeartbeats 8000000 in
theorem split_raw {w : World} {b : Nat} {k : Int} {P0 V0 S0 R0 Q0 Y0 X0 v : ByteArray} {l r : Option Addr} {d : Int} {sl s : Bool} {m a c : Nat} (hN : NodeAt ndT w b k P0 V0 l r d sl) (hk : ¬ k = 2) (hm : m <= 1000)
   (hsz : S0.size = m + (a + 1)) (hsz2 : P0.size = m + (c + 1)) (hsz3 : R0.size = a + 1)
   (hsh : ∀ w, Calls Tryz.prog 59 #[.string P0, .string S0] w fun e w' => e = .returned (.int .i64 m) /\ ∃ n, w' = w.drewN n)
   (hsd : ∀ w, Calls Tryz.prog 61 #[.string R0] w fun e w' => e = .returned (.int .i64 (bit s)) /\ ∃ n, w' = w.drewN n)
   (e1 : S0.extract m (m + (a + 1)) = R0) (e2 : S0.extract 0 m = Q0) (e3 : R0.extract 1 (a + 1) = Y0) (e4 : P0.extract (m + 1) (m + (c + 1)) = X0) :
   Calls Tryz.prog 48 #[.pointer (some ⟨b, 0, none⟩), .string S0, .string v] w fun e w' => ∃ b' b1 b2, e = .returned (.pointer (ptr b')) /\ NodeAt ndT w' b' 1 Q0 noText (ptr (pick s b1 b2)) (ptr (pick s b2 b1)) 0 false /\ NodeAt ndT w' b1 0 Y0 v none none 0 false /\ NodeAt ndT w' b2 k X0 V0 l r 0 false /\ Below w.heap.size w w' := by
 obtain ⟨h0, h1, h2, h3, h4, h5⟩ := NodeAt.cells hN
 have hb := NodeAt.lt hN
 have hk1 : (k == 2) = false := by simpa using hk
 have hk2 : decide (k = 2) = false := decide_eq_false hk
 have hlt : decide ((m : Int) < ((m + (c + 1) : Nat) : Int)) = true := decide_eq_true (by omega)
 have i0 : (0 : Int) <= (m : Int) := by omega
 have i1 : (m : Int) <= (S0.size : Int) := by omega
 have i2 : (m : Int) <= ((m + (a + 1) : Nat) : Int) := by omega
 have i3 : (m : Int) <= (m : Int) + ((a : Int) + 1) := by omega
 have i4 : IntKind.i64.wrap ((m : Int) + 1) = (m : Int) + 1 := Go.wrap_small _ (by omega) (by omega)
 have j1 : (1 : Int) <= (R0.size : Int) := by omega
 have j2 : (1 : Int) <= ((a + 1 : Nat) : Int) := by omega
 have j3 : (1 : Int) <= (a : Int) + 1 := by omega
 have i5 : (0 : Int) <= (m : Int) + 1 := by omega
 have i6 : (m : Int) + 1 <= (P0.size : Int) := by omega
 have i7 : (m : Int) + 1 <= ((m + (c + 1) : Nat) : Int) := by omega
 have i8 : (m : Int) + 1 <= (m : Int) + ((c : Int) + 1) := by omega
 go_enter Tryz.func48, Tryz.ntmps48
 go_wp2_with (go_at_call 59; refine (hsh _).mono ?_; rintro e w' ⟨rfl, n1, rfl⟩)
 have hA : ∀ n : Nat, NodeC (w.drewN n).drew b k P0 V0 l r := fun n => ⟨h0, h1, h2, h3, h4⟩
 go_region_held3 (fun w' => w'.cell? ⟨b, 0, none⟩ = some (.int .i64 k) /\ w'.cell? ⟨b, 1, none⟩ = some (.string P0) /\ w'.cell? ⟨b, 2, none⟩ = some (.string V0) /\ w'.cell? ⟨b, 3, none⟩ = some (.pointer l) /\ w'.cell? ⟨b, 4, none⟩ = some (.pointer r)) (go_keep)
   (first
   | (go_at_call 61; refine (hsd _).mono ?_; rintro e w2 ⟨rfl, n2, rfl⟩)
   | (go_at_call 58; refine (leaf_any _ _ _).mono ?_; rintro e w3 ⟨b1, rfl, hN1, hB1⟩; have khB10 := hB1.cell (p := ⟨b, 0, none⟩) (by first | exact cell_lt (by assumption) | exact conj_lt (by assumption)); have khB11 := hB1.cell (p := ⟨b, 1, none⟩) (by first | exact cell_lt (by assumption) | exact conj_lt (by assumption)); have khB12 := hB1.cell (p := ⟨b, 2, none⟩) (by first | exact cell_lt (by assumption) | exact conj_lt (by assumption)); have khB13 := hB1.cell (p := ⟨b, 3, none⟩) (by first | exact cell_lt (by assumption) | exact conj_lt (by assumption)); have khB14 := hB1.cell (p := ⟨b, 4, none⟩) (by first | exact cell_lt (by assumption) | exact conj_lt (by assumption)))
   | (go_at_call 62; refine (moved_cells _ _ (by assumption)).mono ?_; rintro e w4 ⟨b2, rfl, hN2, hB2⟩; have khB20 := hB2.cell (p := ⟨b, 0, none⟩) (by first | exact cell_lt (by assumption) | exact conj_lt (by assumption)); have khB21 := hB2.cell (p := ⟨b, 1, none⟩) (by first | exact cell_lt (by assumption) | exact conj_lt (by assumption)); have khB22 := hB2.cell (p := ⟨b, 2, none⟩) (by first | exact cell_lt (by assumption) | exact conj_lt (by assumption)); have khB23 := hB2.cell (p := ⟨b, 3, none⟩) (by first | exact cell_lt (by assumption) | exact conj_lt (by assumption)); have khB24 := hB2.cell (p := ⟨b, 4, none⟩) (by first | exact cell_lt (by assumption) | exact conj_lt (by assumption)))
   | (go_at_call 60; refine (branch_any _ _ _ _ _).mono ?_; rintro e w5 ⟨b3, rfl, hN3, hB3⟩; have khB30 := hB3.cell (p := ⟨b, 0, none⟩) (by first | exact cell_lt (by assumption) | exact conj_lt (by assumption)); have khB31 := hB3.cell (p := ⟨b, 1, none⟩) (by first | exact cell_lt (by assumption) | exact conj_lt (by assumption)); have khB32 := hB3.cell (p := ⟨b, 2, none⟩) (by first | exact cell_lt (by assumption) | exact conj_lt (by assumption)); have khB33 := hB3.cell (p := ⟨b, 3, none⟩) (by first | exact cell_lt (by assumption) | exact conj_lt (by assumption)); have khB34 := hB3.cell (p := ⟨b, 4, none⟩) (by first | exact cell_lt (by assumption) | exact conj_lt (by assumption))))
 go_wp2_with fail
 go_ret
 have z1 := hB1.size
 have z2 := hB2.size
 have z3 := hB3.size
 exact ⟨b3, b1, b2, rfl, hN3, NodeAt.below (NodeAt.below hN1 hB2) hB3, NodeAt.below hN2 hB3, below_mono (below_mono (below_mono (below_drewN _ _ _) hB1) hB2) hB3⟩
set_option maxRecDepth 20000 in
set_option maxHeartbeats 8000000 in
theorem with_empty {w : World} {b : Nat} {P0 V0 S0 v : ByteArray} {l r : Option Addr} {d : Int} {sl : Bool} (hN : NodeAt ndT w b 2 P0 V0 l r d sl) :
   Calls Tryz.prog 48 #[.pointer (some ⟨b, 0, none⟩), .string S0, .string v] w fun e w' => ∃ b', e = .returned (.pointer (ptr b')) /\ NodeAt ndT w' b' 0 S0 v none none 0 false /\ Below w.heap.size w w' := by
 obtain ⟨h0, h1, h2, h3, h4, h5⟩ := NodeAt.cells hN
 have hb := NodeAt.lt hN
 go_enter Tryz.func48, Tryz.ntmps48
 go_wp2_with (go_at_call 58; refine (leaf_any _ _ _).mono ?_; rintro e w3 ⟨b1, rfl, hN1, hB1⟩)
 go_ret
 exact ⟨_, rfl, hN1, hB1⟩
set_option maxRecDepth 20000 in
set_option maxHeartbeats 8000000 in
theorem with_leaf {w : World} {b : Nat} {P0 V0 S0 v : ByteArray} {l r : Option Addr} {d : Int} {sl : Bool} {m : Nat} (hN : NodeAt ndT w b 0 P0 V0 l r d sl) (hsz : P0.size = m)
   (hsh : ∀ w, Calls Tryz.prog 59 #[.string P0, .string S0] w fun e w' => e = .returned (.int .i64 m) /\ ∃ n, w' = w.drewN n) :
   Calls Tryz.prog 48 #[.pointer (some ⟨b, 0, none⟩), .string S0, .string v] w fun e w' => ∃ b', e = .returned (.pointer (ptr b')) /\ NodeAt ndT w' b' 0 S0 v none none 0 false /\ Below w.heap.size w w' := by
 obtain ⟨h0, h1, h2, h3, h4, h5⟩ := NodeAt.cells hN
 have hb := NodeAt.lt hN
 have hlt : decide ((m : Int) < (m : Int)) = false := decide_eq_false (by omega)
 go_enter Tryz.func48, Tryz.ntmps48
 go_wp2_with (first
   | (go_at_call 59; refine (hsh _).mono ?_; rintro e w' ⟨rfl, n1, rfl⟩)
   | (go_at_call 58; refine (leaf_any _ _ _).mono ?_; rintro e w3 ⟨b1, rfl, hN1, hB1⟩))
 go_ret
 exact ⟨_, rfl, hN1, below_mono (below_drewN _ _ _) hB1⟩
set_option maxRecDepth 20000 in
set_option maxHeartbeats 8000000 in
theorem with_down {w : World} {b : Nat} {P0 S0 R0 Y0 v : ByteArray} {bl br : Nat} {d : Int} {sl s : Bool} {m a : Nat} {Q : World -> Nat -> Prop} (hN : NodeAt ndT w b 1 P0 noText (ptr bl) (ptr br) d sl) (hm : m <= 1000)
   (hsz : S0.size = m + (a + 1)) (hsz2 : P0.size = m) (hsz3 : R0.size = a + 1)
   (hsh : ∀ w, Calls Tryz.prog 59 #[.string P0, .string S0] w fun e w' => e = .returned (.int .i64 m) /\ ∃ n, w' = w.drewN n)
   (hsd : ∀ w, Calls Tryz.prog 61 #[.string R0] w fun e w' => e = .returned (.int .i64 (bit s)) /\ ∃ n, w' = w.drewN n)
   (e1 : S0.extract m (m + (a + 1)) = R0) (e3 : R0.extract 1 (a + 1) = Y0)
   (hrec : ∀ n, Calls Tryz.prog 48 #[.pointer (ptr (pick s bl br)), .string Y0, .string v] (w.drewN n) fun e w' => ∃ b', e = .returned (.pointer (ptr b')) /\ Q w' b' /\ Below (w.drewN n).heap.size (w.drewN n) w') :
   Calls Tryz.prog 48 #[.pointer (some ⟨b, 0, none⟩), .string S0, .string v] w fun e w' => ∃ b' c w2, e = .returned (.pointer (ptr b')) /\ NodeAt ndT w' b' 1 P0 noText (ptr (pick s c (pick s br bl))) (ptr (pick s (pick s br bl) c)) 0 false /\ Q w2 c /\ Below w2.heap.size w2 w' /\ Below w.heap.size w w' := by
 obtain ⟨h0, h1, h2, h3, h4, h5⟩ := NodeAt.cells hN
 have hb := NodeAt.lt hN
 have hlt : decide ((m : Int) < (m : Int)) = false := decide_eq_false (by omega)
 have i0 : (0 : Int) <= (m : Int) := by omega
 have i1 : (m : Int) <= (S0.size : Int) := by omega
 have i2 : (m : Int) <= ((m + (a + 1) : Nat) : Int) := by omega
 have i3 : (m : Int) <= (m : Int) + ((a : Int) + 1) := by omega
 have j1 : (1 : Int) <= (R0.size : Int) := by omega
 have j2 : (1 : Int) <= ((a + 1 : Nat) : Int) := by omega
 have j3 : (1 : Int) <= (a : Int) + 1 := by omega
 have u1 : IntKind.i64.wrap 1 = 1 := rfl
 have u0 : IntKind.i64.wrap 0 = 0 := rfl
 have hA : ∀ n : Nat, NodeC (w.drewN n).drew b 1 P0 noText (ptr bl) (ptr br) := fun n => ⟨h0, h1, h2, h3, h4⟩
 cases s with
 | true =>
   simp only [bit, if_true] at hsd
   simp only [pick, if_true] at hrec ⊢
   go_enter Tryz.func48, Tryz.ntmps48
   go_wp2_with (first
     | (go_at_call 59; refine (hsh _).mono ?_; rintro e w' ⟨rfl, n1, rfl⟩)
     | (go_at_call 61; refine (hsd _).mono ?_; rintro e w' ⟨rfl, n2, rfl⟩))
   go_region_held3 (fun w' => w'.cell? ⟨b, 0, none⟩ = some (.int .i64 1) /\ w'.cell? ⟨b, 1, none⟩ = some (.string P0) /\ w'.cell? ⟨b, 2, none⟩ = some (.string noText) /\ w'.cell? ⟨b, 3, none⟩ = some (.pointer (ptr bl)) /\ w'.cell? ⟨b, 4, none⟩ = some (.pointer (ptr br))) (go_keep)
     (first
     | (go_at_call 48; refine (hrec _).mono ?_; rintro e w3 ⟨b1, rfl, hN1, hB1⟩; have khB10 := hB1.cell (p := ⟨b, 0, none⟩) (by first | exact cell_lt (by assumption) | exact conj_lt (by assumption)); have khB11 := hB1.cell (p := ⟨b, 1, none⟩) (by first | exact cell_lt (by assumption) | exact conj_lt (by assumption)); have khB12 := hB1.cell (p := ⟨b, 2, none⟩) (by first | exact cell_lt (by assumption) | exact conj_lt (by assumption)); have khB13 := hB1.cell (p := ⟨b, 3, none⟩) (by first | exact cell_lt (by assumption) | exact conj_lt (by assumption)); have khB14 := hB1.cell (p := ⟨b, 4, none⟩) (by first | exact cell_lt (by assumption) | exact conj_lt (by assumption)))
     | (go_at_call 60; refine (branch_any _ true _ _ _).mono ?_; rintro e w5 ⟨b3, rfl, hN3, hB3⟩; have khB30 := hB3.cell (p := ⟨b, 0, none⟩) (by first | exact cell_lt (by assumption) | exact conj_lt (by assumption)); have khB31 := hB3.cell (p := ⟨b, 1, none⟩) (by first | exact cell_lt (by assumption) | exact conj_lt (by assumption)); have khB32 := hB3.cell (p := ⟨b, 2, none⟩) (by first | exact cell_lt (by assumption) | exact conj_lt (by assumption)); have khB33 := hB3.cell (p := ⟨b, 3, none⟩) (by first | exact cell_lt (by assumption) | exact conj_lt (by assumption)); have khB34 := hB3.cell (p := ⟨b, 4, none⟩) (by first | exact cell_lt (by assumption) | exact conj_lt (by assumption))))
   go_wp2_with fail
   go_ret
   exact ⟨b3, b1, w3, rfl, hN3, hN1, hB3, below_mono (below_mono (below_drewN _ _ _) hB1) hB3⟩
 | false =>
   simp only [bit, Bool.false_eq_true, if_false] at hsd
   simp only [pick, Bool.false_eq_true, if_false] at hrec ⊢
   go_enter Tryz.func48, Tryz.ntmps48
   go_wp2_with (first
     | (go_at_call 59; refine (hsh _).mono ?_; rintro e w' ⟨rfl, n1, rfl⟩)
     | (go_at_call 61; refine (hsd _).mono ?_; rintro e w' ⟨rfl, n2, rfl⟩))
   go_region_held3 (fun w' => w'.cell? ⟨b, 0, none⟩ = some (.int .i64 1) /\ w'.cell? ⟨b, 1, none⟩ = some (.string P0) /\ w'.cell? ⟨b, 2, none⟩ = some (.string noText) /\ w'.cell? ⟨b, 3, none⟩ = some (.pointer (ptr bl)) /\ w'.cell? ⟨b, 4, none⟩ = some (.pointer (ptr br))) (go_keep)
     (first
     | (go_at_call 48; refine (hrec _).mono ?_; rintro e w3 ⟨b1, rfl, hN1, hB1⟩; have khB10 := hB1.cell (p := ⟨b, 0, none⟩) (by first | exact cell_lt (by assumption) | exact conj_lt (by assumption)); have khB11 := hB1.cell (p := ⟨b, 1, none⟩) (by first | exact cell_lt (by assumption) | exact conj_lt (by assumption)); have khB12 := hB1.cell (p := ⟨b, 2, none⟩) (by first | exact cell_lt (by assumption) | exact conj_lt (by assumption)); have khB13 := hB1.cell (p := ⟨b, 3, none⟩) (by first | exact cell_lt (by assumption) | exact conj_lt (by assumption)); have khB14 := hB1.cell (p := ⟨b, 4, none⟩) (by first | exact cell_lt (by assumption) | exact conj_lt (by assumption)))
     | (go_at_call 60; refine (branch_any _ false _ _ _).mono ?_; rintro e w5 ⟨b3, rfl, hN3, hB3⟩; have khB30 := hB3.cell (p := ⟨b, 0, none⟩) (by first | exact cell_lt (by assumption) | exact conj_lt (by assumption)); have khB31 := hB3.cell (p := ⟨b, 1, none⟩) (by first | exact cell_lt (by assumption) | exact conj_lt (by assumption)); have khB32 := hB3.cell (p := ⟨b, 2, none⟩) (by first | exact cell_lt (by assumption) | exact conj_lt (by assumption)); have khB33 := hB3.cell (p := ⟨b, 3, none⟩) (by first | exact cell_lt (by assumption) | exact conj_lt (by assumption)); have khB34 := hB3.cell (p := ⟨b, 4, none⟩) (by first | exact cell_lt (by assumption) | exact conj_lt (by assumption))))
   go_wp2_with fail
   go_ret
   exact ⟨b3, b1, w3, rfl, hN3, hN1, hB3, below_mono (below_mono (below_drewN _ _ _) hB1) hB3⟩
variable {dg : DG}
theorem tat_leaf {w : World} {b : Nat} {p : Bits} {v : ByteArray} (h : NodeAt ndT w b 0 (str p) v none none 0 false) : TAt dg w (.leaf p v) b := ⟨trivial, 0, false, h, fun e => by cases e⟩
theorem tat_branch {w : World} {b bl br : Nat} {p : Bits} {l r : T ByteArray} (h : NodeAt ndT w b 1 (str p) noText (ptr bl) (ptr br) 0 false) (hl : TAt dg w l bl) (hr : TAt dg w r br) : TAt dg w (.branch p l r) b := ⟨trivial, bl, br, 0, false, h, hl, hr, fun e => by cases e⟩
theorem tat_fork {w : World} {b x y : Nat} {p : Bits} {s : Bool} {t o : T ByteArray} (h : NodeAt ndT w b 1 (str p) noText (ptr (pick s x y)) (ptr (pick s y x)) 0 false) (hx : TAt dg w t x) (hy : TAt dg w o y) : TAt dg w (fork p s t o) b := by
 cases s with
 | true => exact tat_branch h hy hx
 | false => exact tat_branch h hx hy
theorem kind_ne {t : T ByteArray} (h : t.isEmpty = false) : ¬ t.tr.kind = 2 := by
 cases t with
 | empty => cases h
 | leaf p v => intro e; cases e
 | branch p l r => intro e; cases e
theorem drop_app (q r : Bits) : (q ++ r).drop q.length = r := by simp
theorem str_off {q r : Bits} {m n : Nat} (hm : m = q.length) (hn : n = q.length + r.length) : (str (q ++ r)).extract m n = str r := by
 have := str_drop (q ++ r) q.length
 rw [drop_app] at this
 rw [hm, hn, <- List.length_append]; exact this
theorem with_split {w : World} {b : Nat} {t : T ByteArray} {q1 x y : Bits} {s : Bool} {v : ByteArray} (hT : TAt dg w t b) (hne : t.isEmpty = false) (hp : t.path = q1 ++ (!s) :: x) (hl : (q1 ++ s :: y).length <= 1000) :
   Calls Tryz.prog 48 #[.pointer (ptr b), .string (str (q1 ++ s :: y)), .string v] w fun e w' => ∃ b', e = .returned (.pointer (ptr b')) /\ TAt dg w' (fork q1 s (.leaf y v) (t.moved x)) b' /\ Below w.heap.size w w' := by
 obtain ⟨l, r, d, sl, hN, hm⟩ := TAt.node hT
 have hlen : q1.length <= 1000 := by simp at hl; omega
 refine (split_raw (P0 := str t.path) (S0 := str (q1 ++ s :: y)) (R0 := str (s :: y)) (Q0 := str q1) (Y0 := str y) (X0 := str x) (m := q1.length) (a := y.length) (c := x.length) (s := s) (v := v) hN (kind_ne hne) hlen ?_ ?_ ?_ ?_ ?_ ?_ ?_ ?_ ?_).mono ?_
 · rw [str_size]; simp
 · rw [hp, str_size]; simp
 · rw [str_size]; simp
 · intro w1; have h := shared_any t.path (q1 ++ s :: y) w1 hl; rw [hp] at h ⊢; rw [share_split] at h; exact h
 · intro w1; exact sideOf_any s y w1
 · exact str_off rfl rfl
 · rw [str_take]; simp
 · exact str_off (q := [s]) (r := y) rfl (by simp; omega)
 · rw [hp, show q1 ++ (!s) :: x = (q1 ++ [!s]) ++ x by simp]; exact str_off (by simp) (by simp; omega)
 · rintro e w' ⟨b', b1, b2, rfl, h1, h2, h3, h4⟩
   refine ⟨b', rfl, tat_fork h1 (tat_leaf h2) ?_, h4⟩
   rcases hm x w' b2 h4 h3 with h | h
   · rw [hne] at h; exact h
   · rw [hne] at h; cases h
theorem wth_split {t : T ByteArray} {q1 x y : Bits} {s : Bool} {v : ByteArray} (hne : t.isEmpty = false) (hp : t.path = q1 ++ (!s) :: x) : t.wth (q1 ++ s :: y) v = fork q1 s (.leaf y v) (t.moved x) := by
 have hs : share t.path (q1 ++ s :: y) = q1.length := by rw [hp, share_split]
 have hlt : share t.path (q1 ++ s :: y) < t.path.length := by rw [hs, hp]; simp
 have hd : t.path.drop (q1.length + 1) = x := by rw [hp, show q1 ++ (!s) :: x = (q1 ++ [!s]) ++ x by simp]; simp [List.drop_append]
 have key : parted t (share t.path (q1 ++ s :: y)) (q1 ++ s :: y) v = fork q1 s (.leaf y v) (t.moved x) := by
   rw [hs]; simp only [parted, drop_app]; rw [hd]; simp
 cases t with
 | empty => cases hne
 | leaf p z => simp only [T.wth]; simp only [T.path] at hlt key; rw [if_pos hlt]; exact key
 | branch p l r => simp only [T.wth]; simp only [T.path] at hlt key; rw [if_pos hlt]; exact key
theorem with_any : ∀ (t : T ByteArray) (q : Bits) (v : ByteArray) (w : World) (b : Nat), Fits t q -> TAt dg w t b ->
   Calls Tryz.prog 48 #[.pointer (ptr b), .string (str q), .string v] w fun e w' => ∃ b', e = .returned (.pointer (ptr b')) /\ TAt dg w' (t.wth q v) b' /\ Below w.heap.size w w'
 | .empty, q, v, w, b, hF, hT => by
   obtain ⟨_, d, s, h, _⟩ := hT
   refine (with_empty h).mono ?_
   rintro e w' ⟨b', rfl, h1, h2⟩
   exact ⟨b', rfl, tat_leaf h1, h2⟩
 | .leaf p z, q, v, w, b, hF, hT => by
   rcases hF.stand rfl with ⟨p', v', e, rfl⟩ | ⟨_, _, _, _, _, e, _⟩ | ⟨q1, s, x, y, hp, rfl⟩
   · cases e
     obtain ⟨_, d, s, h, _⟩ := hT
     refine (with_leaf (m := p.length) h ?_ ?_).mono ?_
     · show (str p).size = _; rw [str_size]
     · intro w1
       have h := shared_any p p w1 hF.short
       have e := share_app p []
       rw [List.append_nil] at e
       rw [e] at h
       exact h
     · rintro e w' ⟨b', rfl, h1, h2⟩
       refine ⟨b', rfl, ?_, h2⟩
       have e := share_app p []
       rw [List.append_nil] at e
       simp only [T.wth]
       rw [if_neg (by omega)]
       exact tat_leaf h1
   · cases e
   · rw [wth_split rfl hp]; exact with_split hT rfl hp hF.short
 | .branch p l r, q, v, w, b, hF, hT => by
   rcases hF.stand rfl with ⟨_, _, e, _⟩ | ⟨p', l', r', s, q2, e, rfl⟩ | ⟨q1, s, x, y, hp, rfl⟩
   · cases e
   · cases e
     have hside := hF.side
     have hlen := hF.short
     obtain ⟨_, bl, br, d, sl, h1, h2, h3, h4⟩ := hT
     have hp1 : p.length <= 1000 := by simp at hlen; omega
     refine (with_down (P0 := str p) (S0 := str (p ++ s :: q2)) (R0 := str (s :: q2)) (Y0 := str q2) (m := p.length) (a := q2.length) (s := s) (v := v) (Q := fun w' b' => TAt dg w' ((if s then r else l).wth q2 v) b' /\ Below w.heap.size w w') h1 hp1 ?_ ?_ ?_ ?_ ?_ ?_ ?_ ?_).mono ?_
     · rw [str_size]; simp
     · rw [str_size]
     · rw [str_size]; simp
     · intro w1; have h := shared_any p (p ++ s :: q2) w1 hlen; rw [share_app] at h; exact h
     · intro w1; exact sideOf_any s q2 w1
     · exact str_off rfl rfl
     · exact str_off (q := [s]) (r := q2) rfl (by simp; omega)
     · intro n
       have hB := below_drewN w.heap.size w n
       cases s with
       | true =>
         refine (with_any r q2 v (w.drewN n) br hside (TAt.below h3 hB)).mono ?_
         rintro e w' ⟨b', rfl, k1, k2⟩
         exact ⟨b', rfl, ⟨k1, below_mono hB k2⟩, k2⟩
       | false =>
         refine (with_any l q2 v (w.drewN n) bl hside (TAt.below h2 hB)).mono ?_
         rintro e w' ⟨b', rfl, k1, k2⟩
         exact ⟨b', rfl, ⟨k1, below_mono hB k2⟩, k2⟩
     · rintro e w' ⟨b', c, w2, rfl, k1, ⟨k2, k3⟩, k4, k5⟩
       refine ⟨b', rfl, ?_, k5⟩
       have hw : (T.branch p l r).wth (p ++ s :: q2) v = if s then .branch p l (r.wth q2 v) else .branch p (l.wth q2 v) r := by
         simp only [T.wth]
         rw [share_app, if_neg (by omega), drop_app]
         cases s <;> rfl
       rw [hw]
       cases s with
       | true => exact tat_branch k1 (TAt.below h2 k5) (TAt.below k2 k4)
       | false => exact tat_branch k1 (TAt.below k2 k4) (TAt.below h3 k5)
   · rw [wth_split rfl hp]; exact with_split hT rfl hp hF.short
end Go.Proofs.YtddcbeeldjjmeaaGreat
