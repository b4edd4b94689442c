/- For every four integers and every row of integers the statement Back answers true, and its arguments read afterwards as before; no condition but what the row lists of package-level variables, which the card ties to the program's text. -/
import Derived.Test.YtddcbeeldjjmeaaGreatDoorTie
import Derived.Test.YtddcbeeldjjmeaaGreatDoorCards
import Derived.Test.YtddcbeeldjjmeaaGreatDoorBackLaw
import Derived.Test.YtddcbeeldjjmeaaGreatDoorBackF
import Derived.Test.YtddcbeeldjjmeaaGreatDoorLaidS
import Derived.Test.YtddcbeeldjjmeaaGreatDoorLeave
import Derived.Lib.LaidTab
import Derived.Stop.LaidErr
import Derived.ProofKit
import Derived.OpenShut
import Derived.LaidMore
import Derived.Lay
import Derived.SevenTiedAt
import Derived.Stop.Joined
import Derived.Carry
namespace Go.Proofs.YtddcbeeldjjmeaaGreatDoor.back
open Go.ChangeShapes Go.WideShapes Go.ChangeAt Go.RowKit
open Go.ChangeMaps (open_string shut_string)
set_option linter.unusedVariables false
set_option linter.unusedSimpArgs false

theorem own : ownKnob Tryz.prog.godebug = none := by kernel_rfl

theorem sents_mem (g : Nat) (hg : g ∈ Tw.sents) : ∃ text, (Sn.nameOf g, Sn.sentD "*errors.errorString" text) ∈ Rows.backRow.laid := by
  simp only [Tw.sents, Tw.ways, Tw.nob, List.mem_cons, List.mem_nil_iff, or_false] at hg
  rcases hg with rfl | rfl | rfl | rfl | rfl | rfl | rfl | rfl | rfl | rfl | rfl | rfl | rfl | rfl | rfl
  all_goals
    refine ⟨?_, ?_⟩
    rotate_left
    repeat (first | exact List.Mem.head _ | refine List.Mem.tail _ ?_)

theorem tab_of_laid {W : World} (hL : laidMet Tryz.prog Rows.backRow.laid W) : Tw.Tab W := by
  have h := laidMet.tail (laidMet.tail hL)
  exact Lib.tabIs_of_head (g := 23) (n := 20) (zs := Lib.pow10Tab) (by kernel_rfl) (by kernel_rfl) Tryz.underlying397 Tryz.underlying219 (by kernel_rfl) (by kernel_rfl) h

theorem laidOut : laidOutB Tryz.prog = true := by kernel_rfl
theorem cellsInt : Tryz.prog.cellsOf 3 = 1 := by kernel_rfl
theorem rowed : Tryz.prog.readableRec 42 = true := by kernel_rfl
theorem rowedI : Tryz.prog.readableRec 3 = true := by kernel_rfl
theorem wfB (n : Int) (h : (Lit.int .i64 n).wf = true) : -9223372036854775808 ≤ n ∧ n ≤ 9223372036854775807 := by
  simp only [Lit.wf, Bool.and_eq_true, decide_eq_true_eq] at h
  simpa [IntKind.min, IntKind.max, IntKind.signed, IntKind.bits] using h

set_option maxRecDepth 100000 in
theorem lifted (os : Os) (started : os.Started) (H : Type) (enc : TypeId × Value → H) :
    ReturnsInHanded {} Tryz.checked os 4 .any (fun w args => (Rows.backSpec.pre enc Tryz.prog Tryz.f4 Rows.backRow.domain false w args ∧ laidMetH Tryz.prog Rows.backRow.laid w) ∧ sizedMet enc Tryz.prog Tryz.f4 (OpenSpec.ofChange Rows.backSpec) false w args)
      (Rows.backSpec.post enc Tryz.prog Tryz.f4 false true false false) := by
  refine returnsInHanded_of_change_and (C := Tryz.checked) (X := fun w _ => laidMetH Tryz.prog Rows.backRow.laid w) (fun _ _ _ hh h => h.of_heap hh) own started (by kernel_rfl) Tryz.func4
    (ChangeSpec.witness_shaped (enc := enc) (C := Tryz.checked) (os := os) (X := fun w _ => laidMetH Tryz.prog Rows.backRow.laid w) false (World.laidAll Tryz.prog os Rows.backRow.laid) #[.int .i64 0, .int .i64 0, .int .i64 0, .slice none 0 0, .int .i64 0] 8 (World.laidAll_os _ _ _)
      (World.shaped_of_ZipB (by kernel_rfl) (by kernel_rfl)) (by kernel_rfl) (by kernel_rfl) (by kernel_rfl)
      (by rw [MakeChecks.laidMetH_plain _ _ _ (by kernel_rfl)]; exact laidMet_laidAll _ (by kernel_rfl) (by kernel_rfl))) ?_
  intro W base args ds gs before hval0 hW hc _ hL _
  have hval : ∀ (j : Nat) t v, Tryz.f4.params[j]? = some t → args[j]? = some v → Value.okWide Tryz.prog W .any base t v := hval0
  have hW' := hW
  obtain ⟨p, q, hA0, hV, rfl, hfz, hnd⟩ := hW
  have hA : DataW.TrodAll enc Tryz.prog W 0 (fun _ => true) true Tryz.f4.params.toList args.toList ds p := hA0
  rw [Tryz.params4] at hA hval
  obtain ⟨v0, vs0, d0, ds0, p0, q0, hargs, rfl, rfl, h0, r0⟩ := trodAll_cons hA
  obtain ⟨v1, vs1, d1, ds1, p1, q1, rfl, rfl, rfl, h1, r1⟩ := trodAll_cons r0
  obtain ⟨v2, vs2, d2, ds2, p2, q2, rfl, rfl, rfl, h2, r2⟩ := trodAll_cons r1
  obtain ⟨v3, vs3, d3, ds3, p3, q3, rfl, rfl, rfl, h3, r3⟩ := trodAll_cons r2
  obtain ⟨v4, vs4, d4, ds4, p4, q4, rfl, rfl, rfl, h4, r4⟩ := trodAll_cons r3
  obtain ⟨rfl, rfl, rfl⟩ := trodAll_nil r4
  obtain rfl : args = #[v0, v1, v2, v3, v4] := by cases args; simp_all
  obtain ⟨rfl, rfl⟩ := trodVars_none hV
  have t0 := h0
  have t1 := h1
  have t2 := h2
  have t3 := h3
  have t4 := h4
  have hlt : ∀ x ∈ p0 ++ (p1 ++ (p2 ++ (p3 ++ (p4 ++ [])))), x.block < W.heap.size := fun x hx => by simpa using hW'.lt x (by simpa using hx)
  obtain ⟨a, rfl, rfl, rfl, wa⟩ := open_int Tryz.underlying3 (hval 0 3 v0 rfl rfl) h0
  obtain ⟨b, rfl, rfl, rfl, wb⟩ := open_int Tryz.underlying3 (hval 1 3 v1 rfl rfl) h1
  obtain ⟨c, rfl, rfl, rfl, wc⟩ := open_int Tryz.underlying3 (hval 2 3 v2 rfl rfl) h2
  obtain ⟨a0, len, cap, rfl⟩ := okWide_slice Tryz.underlying42 (hval 3 42 v3 rfl rfl)
  obtain ⟨d, rfl, rfl, rfl, wd⟩ := open_int Tryz.underlying3 (hval 4 3 v4 rfl rfl) h4
  obtain ⟨fuel, hf⟩ := h3
  obtain ⟨ra, rb⟩ := wfB a wa
  obtain ⟨rc, rd⟩ := wfB b wb
  obtain ⟨re, rf⟩ := wfB c wc
  obtain ⟨rg, rh⟩ := wfB d wd
  clear hA0 hval0 hL
  have key : ∃ raw : List Int, Tw.IRow W (.slice a0 len cap) raw ∧ (∀ x, x ∈ raw → -9223372036854775808 ≤ x ∧ x ≤ 9223372036854775807) ∧ raw.length ≤ 9223372036854775807 := by
    rcases open_ints Tryz.underlying42 Tryz.underlying3 cellsInt hf with ⟨hcs, hx⟩ | ⟨ad, len', cap', zs, hcs, _, hl, hm, hz, hx, hcell, hwz⟩
    · simp [Value.cells] at hcs
      obtain ⟨rfl, rfl, rfl⟩ := hcs
      exact ⟨[], ⟨none, 0, rfl, fun i hi => absurd hi (Nat.not_lt_zero i)⟩, by simp, by simp⟩
    · simp [Value.cells] at hcs
      obtain ⟨rfl, rfl, rfl⟩ := hcs
      simp at hz
      have hlen : (zs.take len).length = len := by rw [List.length_take]; omega
      refine ⟨zs.take len, ⟨some ad, cap, by rw [hlen], fun i hi => ⟨ad, rfl, ?_⟩⟩, fun x hx => wfB x (hwz x (List.mem_of_mem_take hx)), ?_⟩
      · have h := hcell i (by omega)
        rw [h, List.getElem_take]
        simp [List.getD, show i < zs.length by omega]
      · unfold maxLen at hm; omega
  obtain ⟨raw, hI, hr, hrl⟩ := key
  refine (Tw.back_any (fun _ => ⟨0, 0, none⟩) a b c d raw _ W hI hr hrl ra rb rc rd re rf rg rh).mono fun e W' ⟨he, hb⟩ => ?_
  subst he
  have s3 := Below.trod laidOut rowed (of_decide_eq_true (by kernel_rfl)) t3 hb (fun x hx => hlt x (by simp [hx]))
  simp only [List.append_nil, List.nil_append] at hW'
  refine ⟨_, rfl, _, _, _, [], [] ++ ([] ++ ([] ++ (p3 ++ ([] ++ [])))), [], hW', ?_, ?_, ?_, hb.frame _, fun h => by cases h⟩
  · exact trodAll_mk1 (shut_bool Tryz.underlying4 true)
  · exact trodAll_cons_mk (shut_int Tryz.underlying3 wa) (trodAll_cons_mk (shut_int Tryz.underlying3 wb) (trodAll_cons_mk (shut_int Tryz.underlying3 wc) (trodAll_cons_mk s3 (trodAll_cons_mk (shut_int Tryz.underlying3 wd) trodAll_mk0))))
  · rfl

theorem lifted2 (os : Os) (started : os.Started) (H : Type) (enc : TypeId × Value → H) :
    ReturnsInLeavingWide {} Tryz.checked os 4 .any (fun w args => (Rows.backSpec.pre enc Tryz.prog Tryz.f4 Rows.backRow.domain false w args ∧ laidMetH Tryz.prog Rows.backRow.laid w) ∧ sizedMet enc Tryz.prog Tryz.f4 (OpenSpec.ofChange Rows.backSpec) false w args)
      (Rows.backSpec.post enc Tryz.prog Tryz.f4 false true false false) :=
  leavingWide_of_handed (lifted os started H enc)

theorem named : Tryz.pinned.checked.prog.funcNamed Rows.backRow.func = some 4 := by kernel_rfl
theorem inst : Tryz.f4.isInstance Tryz.pinned.checked.prog Rows.backRow.origin Rows.backRow.targs := of_decide_eq_true (by kernel_rfl)
theorem wrapped : Tryz.f4.isWrapper Tryz.pinned.checked.prog Rows.backRow.wrapper Rows.backRow.mainSum := by
  unfold Func.isWrapper; first | (rw [if_pos (by decide +kernel)]; kernel_rfl) | (rw [if_neg (by decide +kernel)]; exact ⟨rfl, rfl⟩)
theorem over : Rows.BackSaid :=
  OpenClaim.holds_of_wide_leaving 4 Tryz.f4 rfl rfl rfl rfl rfl rfl rfl ⟨rfl, rfl, rfl, rfl, rfl⟩ rfl rfl rfl rfl rfl named Tryz.func4 facts inst wrapped
    (fun os started H enc _ => lifted2 os started H enc)

/-- The statement: the card. -/
theorem proved : Rows.BackCardSaid :=
  holds_tied_goes .later Rows.backCard.laidKinds true Rows.backCard.stood.harness true true over (by kernel_rfl) back_row_tie rfl ⟨rfl, rfl⟩ (by kernel_rfl) rfl
    (fun f fn hf hfn => by
      obtain rfl : f = 4 := Option.some.inj ((show Tryz.prog.funcNamed "twig/twigkeep.Back" = some 4 by kernel_rfl).symm.trans hf) |>.symm
      obtain rfl : fn = Tryz.f4 := (Option.some.inj (Tryz.func4.symm.trans hfn)).symm
      exact ⟨by kernel_rfl, fun j t ht => by
        rw [Tryz.params4] at ht
        have hm : t ∈ [3, 42, 3] := by simpa using Array.mem_of_getElem? ht
        have hall : ([3, 42, 3].all fun u => !Tryz.prog.wantsStandIn u) = true := by kernel_rfl
        exact (show Tryz.prog.wantsStandIn t = false by simpa using List.all_eq_true.1 hall t hm)⟩)
    (by kernel_rfl)
end Go.Proofs.YtddcbeeldjjmeaaGreatDoor.back
