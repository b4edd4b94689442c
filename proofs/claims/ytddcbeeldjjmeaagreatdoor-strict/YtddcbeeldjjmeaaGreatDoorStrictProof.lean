/- For every text the statement Strict answers true, and its argument reads afterwards as before; no condition but what the row lists of package-level variables, which the card ties to the program's text. -/
import Derived.Test.YtddcbeeldjjmeaaGreatDoorTie
import Derived.Test.YtddcbeeldjjmeaaGreatDoorCards
import Derived.Test.YtddcbeeldjjmeaaGreatDoorStrictLaw
import Derived.Test.YtddcbeeldjjmeaaGreatDoorStrictF
import Derived.Test.YtddcbeeldjjmeaaGreatDoorLaidS
import Derived.Test.YtddcbeeldjjmeaaGreatDoorLeave
import Derived.Lib.LaidTab
import Derived.Stop.LaidErr
import Derived.ProofKit
import Derived.OpenShut
import Derived.LaidMore
import Derived.Lay
import Derived.SevenTiedAt
import Derived.Stop.Joined
namespace Go.Proofs.YtddcbeeldjjmeaaGreatDoor.strict
open Go.ChangeShapes Go.WideShapes Go.ChangeAt Go.RowKit
open Go.ChangeMaps (open_string shut_string)
set_option linter.unusedVariables false
set_option linter.unusedSimpArgs false

theorem own : ownKnob Tryz.prog.godebug = none := by kernel_rfl

theorem sents_mem (g : Nat) (hg : g ∈ Tw.sents) : ∃ text, (Sn.nameOf g, Sn.sentD "*errors.errorString" text) ∈ Rows.strictRow.laid := by
  simp only [Tw.sents, Tw.ways, Tw.nob, List.mem_cons, List.mem_nil_iff, or_false] at hg
  rcases hg with rfl | rfl | rfl | rfl | rfl | rfl | rfl | rfl | rfl | rfl | rfl | rfl | rfl | rfl | rfl
  all_goals
    refine ⟨?_, ?_⟩
    rotate_left
    repeat (first | exact List.Mem.head _ | refine List.Mem.tail _ ?_)

theorem tab_of_laid {W : World} (hL : laidMet Tryz.prog Rows.strictRow.laid W) : Tw.Tab W := by
  have h := laidMet.tail (laidMet.tail hL)
  exact Lib.tabIs_of_head (g := 23) (n := 20) (zs := Lib.pow10Tab) (by kernel_rfl) (by kernel_rfl) Tryz.underlying397 Tryz.underlying219 (by kernel_rfl) (by kernel_rfl) h

set_option maxRecDepth 100000 in
theorem lifted (os : Os) (started : os.Started) (H : Type) (enc : TypeId × Value → H) :
    ReturnsInHanded {} Tryz.checked os 5 .any (fun w args => (Rows.strictSpec.pre enc Tryz.prog Tryz.f5 Rows.strictRow.domain false w args ∧ laidMetH Tryz.prog Rows.strictRow.laid w) ∧ sizedMet enc Tryz.prog Tryz.f5 (OpenSpec.ofChange Rows.strictSpec) false w args)
      (Rows.strictSpec.post enc Tryz.prog Tryz.f5 false true false false) := by
  refine returnsInHanded_of_change_and (C := Tryz.checked) (X := fun w _ => laidMetH Tryz.prog Rows.strictRow.laid w) (fun _ _ _ hh h => h.of_heap hh) own started (by kernel_rfl) Tryz.func5
    (ChangeSpec.witness_shaped (enc := enc) (C := Tryz.checked) (os := os) (X := fun w _ => laidMetH Tryz.prog Rows.strictRow.laid w) false (World.laidAll Tryz.prog os Rows.strictRow.laid) #[.string ByteArray.empty] 8 (World.laidAll_os _ _ _)
      (World.shaped_of_ZipB (by kernel_rfl) (by kernel_rfl)) (by kernel_rfl) (by kernel_rfl) (by kernel_rfl)
      (by rw [MakeChecks.laidMetH_plain _ _ _ (by kernel_rfl)]; exact laidMet_laidAll _ (by kernel_rfl) (by kernel_rfl))) ?_
  intro W base args ds gs before hval0 hW hc _ hL _
  have hval : ∀ (j : Nat) t v, Tryz.f5.params[j]? = some t → args[j]? = some v → Value.okWide Tryz.prog W .any base t v := hval0
  have hW' := hW
  obtain ⟨p, q, hA0, hV, rfl, hfz, hnd⟩ := hW
  have hA : DataW.TrodAll enc Tryz.prog W 0 (fun _ => true) true Tryz.f5.params.toList args.toList ds p := hA0
  rw [Tryz.params5] at hA hval
  obtain ⟨v0, d0, rfl, rfl, h0⟩ := trodAll_one hA
  obtain ⟨rfl, rfl⟩ := trodVars_none hV
  obtain ⟨s, rfl, rfl, rfl, ws⟩ := open_string Tryz.underlying9 (hval 0 9 v0 rfl rfl) h0
  rw [MakeChecks.laidMetH_plain _ _ _ (by kernel_rfl)] at hL
  obtain ⟨A, hS⟩ := Sn.sents_of_laid hL sents_mem
  have hT := tab_of_laid hL
  clear hA0 hval0
  simp only [List.append_nil] at hW'
  have hwalk := Tw.strict_any A W.heap.size s.data.toList W hS hT hT.lt
    (by have h := Sn.len_list s; unfold maxLen at ws; omega)
  simp only [Tw.S_of] at hwalk
  refine hwalk.mono fun e W' ⟨he, hb⟩ => ?_
  subst he
  refine ⟨_, rfl, _, _, _, [], [], [], hW', ?_, ?_, ?_, hb.frame _, fun h => by cases h⟩
  · exact trodAll_mk1 (shut_bool Tryz.underlying4 true)
  · exact trodAll_mk1 (shut_string Tryz.underlying9 ws)
  · rfl

theorem lifted2 (os : Os) (started : os.Started) (H : Type) (enc : TypeId × Value → H) :
    ReturnsInLeavingWide {} Tryz.checked os 5 .any (fun w args => (Rows.strictSpec.pre enc Tryz.prog Tryz.f5 Rows.strictRow.domain false w args ∧ laidMetH Tryz.prog Rows.strictRow.laid w) ∧ sizedMet enc Tryz.prog Tryz.f5 (OpenSpec.ofChange Rows.strictSpec) false w args)
      (Rows.strictSpec.post enc Tryz.prog Tryz.f5 false true false false) :=
  leavingWide_of_handed (lifted os started H enc)

theorem named : Tryz.pinned.checked.prog.funcNamed Rows.strictRow.func = some 5 := by kernel_rfl
theorem inst : Tryz.f5.isInstance Tryz.pinned.checked.prog Rows.strictRow.origin Rows.strictRow.targs := of_decide_eq_true (by kernel_rfl)
theorem wrapped : Tryz.f5.isWrapper Tryz.pinned.checked.prog Rows.strictRow.wrapper Rows.strictRow.mainSum := by
  unfold Func.isWrapper; first | (rw [if_pos (by decide +kernel)]; kernel_rfl) | (rw [if_neg (by decide +kernel)]; exact ⟨rfl, rfl⟩)
theorem over : Rows.StrictSaid :=
  OpenClaim.holds_of_wide_leaving 5 Tryz.f5 rfl rfl rfl rfl rfl rfl rfl ⟨rfl, rfl, rfl, rfl, rfl⟩ rfl rfl rfl rfl rfl named Tryz.func5 facts inst wrapped
    (fun os started H enc _ => lifted2 os started H enc)

/-- The statement: the card. -/
theorem proved : Rows.StrictCardSaid :=
  holds_tied_goes .later Rows.strictCard.laidKinds true Rows.strictCard.stood.harness true true over (by kernel_rfl) strict_row_tie rfl ⟨rfl, rfl⟩ (by kernel_rfl) rfl
    (fun f fn hf hfn => by
      obtain rfl : f = 5 := Option.some.inj ((show Tryz.prog.funcNamed "twig/twigkeep.Strict" = some 5 by kernel_rfl).symm.trans hf) |>.symm
      obtain rfl : fn = Tryz.f5 := (Option.some.inj (Tryz.func5.symm.trans hfn)).symm
      exact ⟨by kernel_rfl, fun j t ht => by
        rw [Tryz.params5] at ht
        have hm : t ∈ [9] := by simpa using Array.mem_of_getElem? ht
        have hall : ([9].all fun u => !Tryz.prog.wantsStandIn u) = true := by kernel_rfl
        exact (show Tryz.prog.wantsStandIn t = false by simpa using List.all_eq_true.1 hall t hm)⟩)
    (by kernel_rfl)
end Go.Proofs.YtddcbeeldjjmeaaGreatDoor.strict
