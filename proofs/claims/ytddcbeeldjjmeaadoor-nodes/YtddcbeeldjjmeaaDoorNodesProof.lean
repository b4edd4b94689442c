/- For every node and every text the statement Nodes answers true, and its arguments read afterwards as before; no condition but what the row lists of package-level variables, which the card ties to the program's text. -/
import Derived.Test.YtddcbeeldjjmeaaDoorTie
import Derived.Test.YtddcbeeldjjmeaaDoorCards
import Derived.Test.YtddcbeeldjjmeaaDoorNodesLaw
import Derived.Test.YtddcbeeldjjmeaaDoorLaidS
import Derived.Test.YtddcbeeldjjmeaaDoorOpen5
import Derived.ProofKit
import Derived.OpenShut
import Derived.LaidMore
import Derived.Lay
import Derived.SevenTiedAt
import Derived.Stop.Joined
namespace Go.Proofs.YtddcbeeldjjmeaaDoor.nodes
open Go.ChangeShapes Go.WideShapes Go.ChangeAt Go.RowKit
open Go.ChangeMaps (open_string shut_string)
set_option linter.unusedVariables false
set_option linter.unusedSimpArgs false

theorem own : ownKnob Tryd.prog.godebug = none := by kernel_rfl

theorem sents_mem (g : Nat) (hg : g ∈ Tw.sents) : ∃ text, (Sn.nameOf g, Sn.sentD "*errors.errorString" text) ∈ Rows.nodesRow.laid := by
  simp only [Tw.sents, Tw.ways, Tw.nob, List.mem_cons, List.mem_nil_iff, or_false] at hg
  rcases hg with rfl | rfl | rfl | rfl | rfl | rfl | rfl | rfl | rfl | rfl | rfl | rfl | rfl | rfl | rfl
  all_goals
    refine ⟨?_, ?_⟩
    rotate_left
    repeat (first | exact List.Mem.head _ | refine List.Mem.tail _ ?_)

set_option maxRecDepth 100000 in
theorem lifted (os : Os) (started : os.Started) (H : Type) (enc : TypeId × Value → H) :
    ReturnsInHanded {} Tryd.checked os 3 .any (fun w args => (Rows.nodesSpec.pre enc Tryd.prog Tryd.f3 Rows.nodesRow.domain false w args ∧ laidMetH Tryd.prog Rows.nodesRow.laid w) ∧ sizedMet enc Tryd.prog Tryd.f3 (OpenSpec.ofChange Rows.nodesSpec) false w args)
      (Rows.nodesSpec.post enc Tryd.prog Tryd.f3 false true false false) := by
  refine returnsInHanded_of_change_and (C := Tryd.checked) (X := fun w _ => laidMetH Tryd.prog Rows.nodesRow.laid w) (fun _ _ _ hh h => h.of_heap hh) own started (by kernel_rfl) Tryd.func3
    (ChangeSpec.witness_shaped (enc := enc) (C := Tryd.checked) (os := os) (X := fun w _ => laidMetH Tryd.prog Rows.nodesRow.laid w) false (World.laidAll Tryd.prog os Rows.nodesRow.laid) #[.agg #[.int .i64 0, .string ByteArray.empty, .string ByteArray.empty, .int .i64 0, .int .i64 0], .string ByteArray.empty] 8 (World.laidAll_os _ _ _)
      (World.shaped_of_ZipB (by kernel_rfl) (by kernel_rfl)) (by kernel_rfl) (by kernel_rfl) (by kernel_rfl)
      (by rw [MakeChecks.laidMetH_plain _ _ _ (by kernel_rfl)]; exact laidMet_laidAll _ (by kernel_rfl) (by kernel_rfl))) ?_
  intro W base args ds gs before hval0 hW hc _ hL _
  have hval : ∀ (j : Nat) t v, Tryd.f3.params[j]? = some t → args[j]? = some v → Value.okWide Tryd.prog W .any base t v := hval0
  have hW' := hW
  obtain ⟨p, q, hA0, hV, rfl, hfz, hnd⟩ := hW
  have hA : DataW.TrodAll enc Tryd.prog W 0 (fun _ => true) true Tryd.f3.params.toList args.toList ds p := hA0
  rw [Tryd.params3] at hA hval
  obtain ⟨v0, vs0, d0, ds0, p0, q0, hargs, rfl, rfl, h0, r0⟩ := trodAll_cons hA
  obtain ⟨v1, vs1, d1, ds1, p1, q1, rfl, rfl, rfl, h1, r1⟩ := trodAll_cons r0
  obtain ⟨rfl, rfl, rfl⟩ := trodAll_nil r1
  obtain rfl : args = #[v0, v1] := by cases args; simp_all
  obtain ⟨rfl, rfl⟩ := trodVars_none hV
  obtain ⟨c0, c1, c2, c3, c4, y0, y1, y2, y3, y4, n, rfl, rfl, rfl, t0, t1, t2, t3, t4⟩ := Five.open_agg5 Tryd.underlying23 (by kernel_rfl) (by kernel_rfl) (hval 0 23 v0 rfl rfl) h0
  obtain ⟨k, e0, rfl, wk⟩ := DataW.trod_int Tryd.underlying3 t0
  obtain ⟨sp, e1, rfl, wsp⟩ := DataW.trod_string Tryd.underlying9 t1
  obtain ⟨sv, e2, rfl, wsv⟩ := DataW.trod_string Tryd.underlying9 t2
  obtain ⟨x, e3, rfl, wx⟩ := DataW.trod_int Tryd.underlying3 t3
  obtain ⟨y, e4, rfl, wy⟩ := DataW.trod_int Tryd.underlying3 t4
  cases e0; cases e1; cases e2; cases e3; cases e4
  obtain ⟨s, rfl, rfl, rfl, ws⟩ := open_string Tryd.underlying9 (hval 1 9 v1 rfl rfl) h1
  rw [MakeChecks.laidMetH_plain _ _ _ (by kernel_rfl)] at hL
  obtain ⟨A, hS⟩ := Sn.sents_of_laid hL sents_mem
  clear hA0 hval0
  simp only [List.append_nil] at hW'
  have hwalk := Tw.nodes_any A W.heap.size ⟨k, sp.data.toList, sv.data.toList, x, y⟩ s.data.toList W hS
    (by have h := Sn.len_list sp; unfold maxLen at wsp; show sp.data.toList.length ≤ _; omega)
    (by have h := Sn.len_list s; unfold maxLen at ws; omega)
  unfold Tw.nodeV at hwalk
  simp only [Tw.S_of] at hwalk
  refine hwalk.mono fun e W' ⟨he, hb⟩ => ?_
  subst he
  refine ⟨_, rfl, _, _, _, [], [], [], hW', ?_, ?_, ?_, hb.frame _, fun h => by cases h⟩
  · exact trodAll_mk1 (shut_bool Tryd.underlying4 true)
  · exact trodAll_cons_mk (Five.shut_agg5 (y0 := (.lit (.int .i64 k), [])) (y1 := (.lit (.string sp.data.toList), [])) (y2 := (.lit (.string sv.data.toList), [])) (y3 := (.lit (.int .i64 x), [])) (y4 := (.lit (.int .i64 y), [])) Tryd.underlying23 (by kernel_rfl) (by kernel_rfl)
      (Go.Joins.field_of_Trod (shut_int Tryd.underlying3 wk) rfl) (Go.Joins.field_of_Trod (shut_string Tryd.underlying9 wsp) rfl) (Go.Joins.field_of_Trod (shut_string Tryd.underlying9 wsv) rfl) (Go.Joins.field_of_Trod (shut_int Tryd.underlying3 wx) rfl) (Go.Joins.field_of_Trod (shut_int Tryd.underlying3 wy) rfl))
      (trodAll_cons_mk (shut_string Tryd.underlying9 ws) trodAll_mk0)
  · rfl

theorem over : Rows.NodesSaid :=
  OpenClaim.holds_of_wide 3 Tryd.f3 rfl rfl rfl rfl rfl rfl rfl ⟨rfl, rfl, rfl, rfl, rfl⟩ rfl rfl rfl rfl rfl (by kernel_rfl) Tryd.func3 (by kernel_rfl)
    (of_decide_eq_true (by kernel_rfl)) (by unfold Func.isWrapper; first | (rw [if_pos (by decide +kernel)]; kernel_rfl) | (rw [if_neg (by decide +kernel)]; exact ⟨rfl, rfl⟩))
    (fun os started H enc _ => lifted os started H enc)

/-- The statement: the card. -/
theorem proved : Rows.NodesCardSaid :=
  Claim7.holds_tied_plain_at .later [] Rows.nodesCard.laidKinds true Rows.nodesCard.stood.harness true over (fun _ h => by cases h) (by kernel_rfl) (fun _ h => by cases h) nodes_row_tie rfl ⟨rfl, rfl⟩ (by kernel_rfl) rfl
    (fun f fn hf hfn => by
      obtain rfl : f = 3 := Option.some.inj ((show Tryd.prog.funcNamed "twig/twiglaw.Nodes" = some 3 by kernel_rfl).symm.trans hf) |>.symm
      obtain rfl : fn = Tryd.f3 := (Option.some.inj (Tryd.func3.symm.trans hfn)).symm
      exact ⟨by kernel_rfl, fun j t ht => by
        rw [Tryd.params3] at ht
        have hm : t ∈ [23, 9] := by simpa using Array.mem_of_getElem? ht
        have hall : ([23, 9].all fun u => !Tryd.prog.wantsStandIn u) = true := by kernel_rfl
        exact (show Tryd.prog.wantsStandIn t = false by simpa using List.all_eq_true.1 hall t hm)⟩)
    (by kernel_rfl)
end Go.Proofs.YtddcbeeldjjmeaaDoor.nodes
