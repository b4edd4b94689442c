/- MAPPED'S ARGUMENTS: a row of steps opened; where a way. -/
import Derived.Test.YtddcbeeldjjmeaaGreatPart42
import Derived.LaidMore
import Derived.Deep.Strs
import Derived.OpenShut
namespace Go.Proofs.YtddcbeeldjjmeaaGreat
open Go Go.Conc Go.Eq Go.Nest Go.RowKit Go.ChangeShapes Go.WideShapes
set_option linter.unusedVariables false
set_option linter.unusedSimpArgs false
section
variable {H : Type} {enc : TypeId × Value -> H} {P : Program} {w : World} {base : Nat} {spare : Nat -> Bool} {held : Bool}
theorem wfI {n : Int} (h : (Lit.int .i64 n).wf = true) : I64 n:= by
 simp only [Lit.wf, Bool.and_eq_true, decide_eq_true_eq] at h
 have:= h
 simp only [IntKind.min, IntKind.max, IntKind.signed, IntKind.bits] at this
 exact ⟨by have:= this.1; simpa using this, by have:= this.2; simpa using this⟩
theorem open_trip {t e : TypeId} {f0 f1 f2 : Field} {fuel : Nat} {cs : List Value} {x : DataW H × List MemPlace} (ht : P.underlying t = some (.slice e)) (he : P.underlying e = some (.struct #[f0, f1, f2])) (hc : P.cellsOf e = 3)
   (h0 : P.underlying f0.type = some (.int .i64) /\ f0.offset = 0 /\ P.cellsOf f0.type = 1) (h1 : P.underlying f1.type = some (.int .i64) /\ f1.offset = 1 /\ P.cellsOf f1.type = 1) (h2 : P.underlying f2.type = some (.int .i64) /\ f2.offset = 2 /\ P.cellsOf f2.type = 1)
   (h : DataW.trod enc P w base spare held fuel t cs = some x) :
   (cs = [.slice none 0 0] /\ x = (.nil, [])) \/
   ∃ (a : Addr) (cap : Nat) (ps : List (Int × Int × Int)) (el rest : List (DataW H)), cs = [.slice (some a) ps.length cap] /\ x.1 = .slice el rest /\ el.length = ps.length /\ (∀ y, y ∈ ps -> I64 y.1 /\ I64 y.2.1 /\ I64 y.2.2) /\
     ∀ (i : Nat) (hi : i < ps.length), w.cell? (a.add (i * 3)) = some (.int .i64 ps[i].1) /\ w.cell? ((a.add (i * 3)).add 1) = some (.int .i64 ps[i].2.1) /\ w.cell? ((a.add (i * 3)).add 2) = some (.int .i64 ps[i].2.2):= by
 rcases DataW.trod_slice ht h with h3 | ⟨a, len, cap, elems, rest, n, _, rfl, rfl, hb, hl, hm, hlen, hel, -, -⟩
 . exact .inl h3
 right
 have each : ∀ i, i < len -> ∃ p : Int × Int × Int, (I64 p.1 /\ I64 p.2.1 /\ I64 p.2.2) /\ w.cell? (a.add (i * 3)) = some (.int .i64 p.1) /\ w.cell? ((a.add (i * 3)).add 1) = some (.int .i64 p.2.1) /\ w.cell? ((a.add (i * 3)).add 2) = some (.int .i64 p.2.2):= by
   intro i hi
   have h4:= hel i hi
   rw [hc] at h4
   rw [List.getElem?_eq_getElem (by omega)] at h4
   rw [Option.bind_eq_some_iff] at h4
   obtain ⟨cs', hcs, h5⟩:= h4
   obtain ⟨y0, y1, y2, m, -, h6, h7, h8, h9⟩:= Deep.trod_struct3 he h5
   rw [h0.2.1, h0.2.2] at h7
   rw [h1.2.1, h1.2.2] at h8
   rw [h2.2.1, h2.2.2] at h9
   obtain ⟨n0, e0, -, w0⟩:= DataW.trod_int h0.1 h7
   obtain ⟨n1, e1, -, w1⟩:= DataW.trod_int h1.1 h8
   obtain ⟨n2, e2, -, w2⟩:= DataW.trod_int h2.1 h9
   obtain ⟨-, g1, g2⟩:= World.cells?_some hcs
   have k : ∀ (q : Nat) v, (cs'.drop q).take 1 = [v] -> cs'[q]? = some v:= fun q v e => by
     have:= congrArg (·[0]?) e
     simpa using this
   refine ⟨(n0, n1, n2), ⟨wfI w0, wfI w1, wfI w2⟩, ?_, ?_, ?_⟩
   . have:= g2 0 (by omega)
     rw [k 0 _ e0] at this
     simpa [Addr.add] using this
   . rw [g2 1 (by omega), k 1 _ e1]
   . rw [g2 2 (by omega), k 2 _ e2]
 have hps : ∃ ps : List (Int × Int × Int), ps.length = len /\ (∀ y, y ∈ ps -> I64 y.1 /\ I64 y.2.1 /\ I64 y.2.2) /\
     ∀ (i : Nat) (hi : i < ps.length), w.cell? (a.add (i * 3)) = some (.int .i64 ps[i].1) /\ w.cell? ((a.add (i * 3)).add 1) = some (.int .i64 ps[i].2.1) /\ w.cell? ((a.add (i * 3)).add 2) = some (.int .i64 ps[i].2.2):= by
   classical
   refine ⟨(List.range len).map fun i => if h : i < len then (each i h).choose else (0, 0, 0), by simp, fun y hy => ?_, fun i hi => ?_⟩
   . obtain ⟨i, hi, rfl⟩:= List.mem_map.1 hy
     have hi' : i < len:= by simpa using hi
     rw [dif_pos hi']
     exact (each i hi').choose_spec.1
   . have hi' : i < len:= by simpa using hi
     simp only [List.getElem_map, List.getElem_range, dif_pos hi']
     exact (each i hi').choose_spec.2
 obtain ⟨ps, e1, e2, e3⟩:= hps
 subst e1
 exact ⟨a, cap, ps, _, _, rfl, rfl, by simpa using hlen, e2, e3⟩
end
theorem add_at {a : Addr} {n : Nat} {w : World} {v : Value} (h : w.cell? (a.add n) = some v) : a.add n = ⟨a.block, a.off + n, none⟩:= by
 by_cases hn : n = 0
 . subst hn
   obtain ⟨b, o, s⟩:= a
   rw [show Addr.add ⟨b, o, s⟩ 0 = ⟨b, o, s⟩ by simp [Addr.add]] at h ⊢
   cases s with
   | none => rfl
   | some s =>
     unfold World.cell? at h
     split at h
     . simp at h
     . cases h
 . simp [Addr.add, hn]
theorem mapped_start {W : World} {c0 : Int} {a0 : Option Addr} {cap : Nat} {ps : List (Int × Int × Int)} (hc : I64 c0) (hps : ps.length <= 5864062014690) (hI : ∀ x, x ∈ ps -> I64 x.1 /\ I64 x.2.1 /\ I64 x.2.2)
   (hsh : ∀ ad, a0 = some ad -> ∃ c t f, W.heap[ad.block]? = some (.cells c t f))
   (hcell : ∀ (i : Nat) (hi : i < ps.length), ∃ ad : Addr, a0 = some ad /\ W.cell? (ad.add (i * 3)) = some (.int .i64 ps[i].1) /\ W.cell? ((ad.add (i * 3)).add 1) = some (.int .i64 ps[i].2.1) /\ W.cell? ((ad.add (i * 3)).add 2) = some (.int .i64 ps[i].2.2)) :
   ∃ N last ou w' t', runNT Tryz.prog (N + 1) (solo (Eq.live (Frame.enter Tryz.prog 3 #[.int .i64 c0, .slice a0 ps.length cap] .normal) []) W) #[] = (.ended ou w', t') /\
     runN Tryz.prog N (solo (Eq.live (Frame.enter Tryz.prog 3 #[.int .i64 c0, .slice a0 ps.length cap] .normal) []) W) = .next last /\ step Tryz.prog last = .ended ou w' /\
     Conc.Good Tryz.prog (fun v w' => v = .bool true /\ Below W.heap.size W.blind w'.blind) last ou w' t':= by
 letI : Env:= envMap
 cases a0 with
 | none =>
   have hz : ps.length = 0:= by
     rcases Nat.eq_zero_or_pos ps.length with h | h
     . exact h
     . obtain ⟨ad, e, -⟩:= hcell 0 h; cases e
   refine mapped_good (W:= W) (u0:= W) (π0:= fun _ => none) ⟨fun a b c h _ => absurd h (by simp), fun b b' h => absurd h (by simp), rfl, fun b h => h.elim, fun b h => absurd h (Nat.not_lt_zero b), fun b _ _ _ h => h.elim⟩ rfl (.snil _ _) hc hps hI (fun ad n c e => by cases e) ⟨none, cap, rfl, fun i hi => absurd hi (by omega)⟩
     fun π u' w _ _ _ k x h => by cases h
 | some ad =>
   obtain ⟨c, t, f, hb⟩:= hsh ad rfl
   have hint : ∀ j, j < ps.length * 3 -> ∃ n : Int, c[ad.off + j]? = some (.int .i64 n):= by
     intro j hj
     have hi : j / 3 < ps.length:= by omega
     obtain ⟨ad', e, q0, q1, q2⟩:= hcell (j / 3) hi
     cases e
     have e0:= add_at q0
     rw [e0] at q0 q1 q2
     have r : ∀ o v, W.cell? ⟨ad.block, o, none⟩ = some v -> c[o]? = some v:= fun o v h => by simpa [World.cell?, hb] using h
     have : j % 3 = 0 \/ j % 3 = 1 \/ j % 3 = 2:= by omega
     rcases this with h | h | h
     . exact ⟨_, by rw [show ad.off + j = ad.off + j / 3 * 3 by omega]; exact r _ _ q0⟩
     . exact ⟨_, by rw [show ad.off + j = ad.off + j / 3 * 3 + 1 by omega]; exact r _ _ (by simpa [Addr.add] using q1)⟩
     . exact ⟨_, by rw [show ad.off + j = ad.off + j / 3 * 3 + 2 by omega]; exact r _ _ (by simpa [Addr.add] using q2)⟩
   obtain ⟨d, hsz, hin, hrel, honly⟩:= start_rel (W:= W) rfl (fun _ h => h) hb ad.off (ad.off + ps.length * 3) (fun i v h1 h2 e => by
     obtain ⟨n, hn⟩:= hint (i - ad.off) (by omega)
     rw [show ad.off + (i - ad.off) = i by omega, e] at hn
     cases hn
     exact ⟨fun _ => .int _ _, fun _ w' h => by cases h; rfl⟩)
   have hlt : ad.block < W.heap.size:= (Array.getElem?_eq_some_iff.1 hb).1
   have hu0 : ({ W with heap:= W.heap.setIfInBounds ad.block (.cells d t f) } : World).heap[ad.block]? = some (.cells d t f):= Array.getElem?_setIfInBounds_self_of_lt hlt
   refine mapped_good (W:= W) (u0:= { W with heap:= W.heap.setIfInBounds ad.block (.cells d t f) }) (π0:= fun x => if x = ad.block then some ad.block else none) hrel (by simp) (.slice _ _ ⟨by simp, rfl, rfl, Nat.zero_le _⟩) hc hps hI (fun ad' n c e => by cases e; simpa using hlt)
     ⟨some ad, cap, rfl, fun i hi => ?_⟩ ?_
   . obtain ⟨ad', e, q0, q1, q2⟩:= hcell i hi
     cases e
     have e0:= add_at q0
     have r : ∀ o v, ad.off <= o -> o < ad.off + ps.length * 3 -> W.cell? ⟨ad.block, o, none⟩ = some v -> ({ W with heap:= W.heap.setIfInBounds ad.block (.cells d t f) } : World).cell? ⟨ad.block, o, none⟩ = some v:= fun o v h1 h2 h => by
       have h3 : c[o]? = some v:= by simpa [World.cell?, hb] using h
       rw [<- hin o h1 h2] at h3
       unfold World.cell?
       simp only [hu0]
       simpa using h3
     refine ⟨ad, rfl, ?_, ?_, ?_⟩
     . rw [e0] at q0 ⊢
       exact r _ _ (by omega) (by omega) q0
     . rw [e0] at q1 ⊢
       exact r _ _ (by simp only []; omega) (by simp only []; omega) (by simpa [Addr.add] using q1)
     . rw [e0] at q2 ⊢
       exact r _ _ (by simp only []; omega) (by simp only []; omega) (by simpa [Addr.add] using q2)
   . intro π u' w W' hle hold k x hx hk
     have hx' : x = ad.block /\ k = ad.block:= by
       by_cases e : x = ad.block
       . simp only [e, if_true, Option.some.injEq] at hx; exact ⟨e, hx.symm⟩
       . simp only [e, if_false] at hx; cases hx
     obtain ⟨rfl, rfl⟩:= hx'
     rw [hb]
     exact end_same (fun _ h => h) W' (hle _ _ (by simp)) ((hold _ (by simpa using hlt)).trans hu0) honly
end Go.Proofs.YtddcbeeldjjmeaaGreat
