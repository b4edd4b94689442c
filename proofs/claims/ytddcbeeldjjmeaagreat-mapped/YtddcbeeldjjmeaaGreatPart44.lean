/- For every integer and every row of steps the law Mapped answers true, and its arguments read afterwards as before; on every order of its goroutines. -/
import Derived.Test.YtddcbeeldjjmeaaGreatRows
import Derived.Test.YtddcbeeldjjmeaaGreatPart43
import Derived.Conc.LeavingOf
import Derived.ProofKit
import Derived.Carry
namespace Go.Proofs.YtddcbeeldjjmeaaGreat.mapped
open Go Go.Conc Go.ChangeShapes Go.WideShapes Go.ChangeAt Go.RowKit Go.Proofs.YtddcbeeldjjmeaaGreat
set_option linter.unusedVariables false
set_option linter.unusedSimpArgs false
theorem own : ownKnob Tryz.prog.godebug = none:= by kernel_rfl
theorem laidOut : laidOutB Tryz.prog = true:= by kernel_rfl
theorem cellsStep : Tryz.prog.cellsOf 27 = 3:= by kernel_rfl
theorem bytesStep : Tryz.prog.bytesOf 27 = 24:= by kernel_rfl
theorem rowed : Tryz.prog.readableRec 22 = true:= by kernel_rfl
set_option maxRecDepth 100000 in
theorem lifted (os : Os) (started : os.Started) (H : Type) (enc : TypeId × Value -> H) :
   ReturnsInLeavingWide {} Tryz.checked os 3 .any (Rows.mappedSpec.pre6 enc Tryz.prog Tryz.f3 Rows.mappedRow.domain false) (Rows.mappedSpec.post enc Tryz.prog Tryz.f3 false true false false):= by
 refine returnsInLeavingWide_of_change_sized (C:= Tryz.checked) own started Tryz.func3
   (ChangeSpec.witness6 (enc:= enc) (C:= Tryz.checked) false ⟨#[], #[.int .i64 0, .slice none 0 0], []⟩ 8 (by kernel_rfl) (by kernel_rfl) (by kernel_rfl) (by kernel_rfl)) ?_
 intro W base args ds gs before hval0 hW _ hsz0 _
 have hsz : (DataW.weightsEach Tryz.prog (Tryz.f3.params.toList ++ Rows.mappedSpec.plain.varTypes Tryz.prog) (ds ++ gs)).all (· <= reachBytes) = true:= hsz0
 clear hsz0
 have hval : ∀ (j : Nat) t v, Tryz.f3.params[j]? = some t -> args[j]? = some v -> Value.okWide Tryz.prog W .any base t v:= hval0
 have hW':= hW
 obtain ⟨p, q, hA0, hV, rfl, hfz, hnd⟩:= hW
 have hA : DataW.TrodAll enc Tryz.prog W 0 (fun _ => true) true Tryz.f3.params.toList args.toList ds p:= hA0
 rw [Tryz.params3] at hA hval hsz
 obtain ⟨v0, vs0, d0, ds0, p0, q0, hargs, rfl, rfl, h0, r0⟩:= trodAll_cons hA
 obtain ⟨v1, vs1, d1, ds1, p1, q1, rfl, rfl, rfl, h1, r1⟩:= trodAll_cons r0
 obtain ⟨rfl, rfl, rfl⟩:= trodAll_nil r1
 obtain rfl : args = #[v0, v1]:= by cases args; simp_all
 obtain ⟨rfl, rfl⟩:= trodVars_none hV
 have t1:= h1
 have hlt : ∀ x ∈ p0 ++ (p1 ++ []), x.block < W.heap.size:= fun x hx => by simpa using hW'.lt x (by simpa using hx)
 obtain ⟨a, rfl, rfl, rfl, wa⟩:= open_int Tryz.underlying3 (hval 0 3 v0 rfl rfl) h0
 have hok:= hval 1 22 v1 rfl rfl
 obtain ⟨a0, len, cap, rfl⟩:= okWide_slice Tryz.underlying22 hok
 obtain ⟨fuel, hf⟩:= h1
 clear hA0 hval0
 have hblk : ∀ ad, a0 = some ad -> ∃ c t f, W.heap[ad.block]? = some (.cells c t f):= by
   rintro ad rfl
   simp only [Value.okWide, Tryz.underlying22, Cell.okWide, Cell.ok, World.has] at hok
   obtain ⟨-, -, -, -, row, cells, hs, -⟩:= hok
   simp only [World.shape?] at hs
   split at hs
   . exact ⟨_, _, _, by assumption⟩
   . cases hs
 have key : ∃ ps : List (Int × Int × Int), len = ps.length /\ ps.length <= 5864062014690 /\ (∀ x, x ∈ ps -> I64 x.1 /\ I64 x.2.1 /\ I64 x.2.2) /\
     ∀ (i : Nat) (hi : i < ps.length), ∃ ad : Addr, a0 = some ad /\ W.cell? (ad.add (i * 3)) = some (.int .i64 ps[i].1) /\ W.cell? ((ad.add (i * 3)).add 1) = some (.int .i64 ps[i].2.1) /\ W.cell? ((ad.add (i * 3)).add 2) = some (.int .i64 ps[i].2.2):= by
   rcases open_trip Tryz.underlying22 Tryz.underlying27 cellsStep ⟨Tryz.underlying3, rfl, by kernel_rfl⟩ ⟨Tryz.underlying3, rfl, by kernel_rfl⟩ ⟨Tryz.underlying3, rfl, by kernel_rfl⟩ hf with ⟨hcs, hx⟩ | ⟨ad, cap', ps, el, rest, hcs, hd, hel, hr, hcell⟩
   . simp [Value.cells] at hcs
     obtain ⟨rfl, rfl, rfl⟩:= hcs
     exact ⟨[], rfl, by simp, by simp, fun i hi => absurd hi (Nat.not_lt_zero i)⟩
   . simp [Value.cells] at hcs
     obtain ⟨rfl, rfl, rfl⟩:= hcs
     simp only at hd
     subst hd
     have hreach:= sized_slice hsz (j:= 1) (t:= 22) (e:= 27) rfl rfl Tryz.underlying22
     rw [bytesStep, hel] at hreach
     simp only [reachBytes] at hreach
     exact ⟨ps, rfl, by omega, hr, fun i hi => ⟨ad, rfl, hcell i hi⟩⟩
 obtain ⟨ps, rfl, hps, hr, hcell⟩:= key
 obtain ⟨N, last, ou, w', t', g1, g2, g3, g4⟩:= mapped_start (W:= W) (a0:= a0) (cap:= cap) (wfI wa) hps hr hblk hcell
 refine ⟨N, last, ou, w', t', g1, g2, g3, g4.mono fun v ⟨he, hb0⟩ => ?_⟩
 subst he
 suffices hpost : Rows.mappedSpec.post enc Tryz.prog Tryz.f3 false true false false W #[.int .i64 a, .slice a0 ps.length cap] (.bool true) { w' with tape:= W.tape } by
   obtain ⟨ds', gs', before', pr, pa, pv, k1, k2, k3, k4, k5, k6⟩:= hpost
   exact ⟨ds', gs', before', pr, pa, pv, k1, k2.of_heap (by rfl), k3.of_heap (by rfl), k4.of_heap (by rfl), k5, fun h => by cases h⟩
 have hb : Below W.heap.size W { w' with tape:= W.tape }:= ⟨hb0.os, rfl, hb0.output, hb0.size, hb0.block⟩
 have s1:= Below.trod laidOut rowed (of_decide_eq_true (by kernel_rfl)) t1 hb (fun x hx => hlt x (by simp [hx]))
 simp only [List.append_nil, List.nil_append] at hW'
 refine ⟨_, _, _, [], [] ++ (p1 ++ []), [], hW', ?_, ?_, ?_, hb.frame _, fun h => by cases h⟩
 . exact trodAll_mk1 (shut_bool Tryz.underlying4 true)
 . exact trodAll_cons_mk (shut_int Tryz.underlying3 wa) (trodAll_cons_mk s1 trodAll_mk0)
 . rfl
theorem proved : Rows.MappedSaid :=
 OpenClaim.holds_of_wide_leaving 3 Tryz.f3 rfl rfl rfl rfl rfl rfl rfl ⟨rfl, rfl, rfl, rfl, rfl⟩ rfl rfl rfl rfl rfl (by kernel_rfl) Tryz.func3 (by kernel_rfl)
   (of_decide_eq_true (by kernel_rfl)) (by unfold Func.isWrapper; first | (rw [if_pos (by decide +kernel)]; kernel_rfl) | (rw [if_neg (by decide +kernel)]; exact ⟨rfl, rfl⟩))
   (fun os started H enc _ => lifted os started H enc)
end Go.Proofs.YtddcbeeldjjmeaaGreat.mapped
