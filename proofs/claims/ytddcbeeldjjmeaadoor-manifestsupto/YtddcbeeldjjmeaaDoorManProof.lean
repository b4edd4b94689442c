/- For every manifest and every text, where what comes in is of bulk at most 1048576, the statement Manifests answers true, and its arguments read afterwards as before; no condition besides but what the row lists of package-level variables, which the card ties to the program's text. -/
import Derived.Test.YtddcbeeldjjmeaaDoorTie
import Derived.Test.YtddcbeeldjjmeaaDoorCards
import Derived.Test.YtddcbeeldjjmeaaDoorManLaw
import Derived.Test.YtddcbeeldjjmeaaDoorLaidS
import Derived.Test.YtddcbeeldjjmeaaDoorOpen5
import Derived.Lib.LaidTab
import Derived.Stop.LaidErr
import Derived.ProofKit
import Derived.OpenShut
import Derived.LaidMore
import Derived.Lay
import Derived.SevenTiedAt
import Derived.Stop.Joined
import Derived.JoinedCond
import Derived.Carry
import Derived.Deep.DeepHandedRow
namespace Go.Proofs.YtddcbeeldjjmeaaDoor.manifests
open Go.ChangeShapes Go.WideShapes Go.ChangeAt Go.RowKit
open Go.ChangeMaps (open_string shut_string)
set_option linter.unusedVariables false
set_option linter.unusedSimpArgs false

theorem own : ownKnob Tryd.prog.godebug = none := by kernel_rfl

theorem sents_mem (g : Nat) (hg : g ∈ Tw.sents) : ∃ text, (Sn.nameOf g, Sn.sentD "*errors.errorString" text) ∈ Rows.manifestsUptoRow.laid := by
  simp only [Tw.sents, Tw.ways, Tw.nob, List.mem_cons, List.mem_nil_iff, or_false] at hg
  rcases hg with rfl | rfl | rfl | rfl | rfl | rfl | rfl | rfl | rfl | rfl | rfl | rfl | rfl | rfl | rfl
  all_goals
    refine ⟨?_, ?_⟩
    rotate_left
    repeat (first | exact List.Mem.head _ | refine List.Mem.tail _ ?_)

theorem tab_of_laid {W : World} (hL : laidMet Tryd.prog Rows.manifestsUptoRow.laid W) : Tw.Tab W := by
  have h := laidMet.tail (laidMet.tail hL)
  exact Lib.tabIs_of_head (g := 15) (n := 20) (zs := Lib.pow10Tab) (by kernel_rfl) (by kernel_rfl) Tryd.underlying142 Tryd.underlying133 (by kernel_rfl) (by kernel_rfl) h

theorem laidOut : laidOutB Tryd.prog = true := by kernel_rfl
theorem cellsInt : Tryd.prog.cellsOf 3 = 1 := by kernel_rfl
theorem rowed : Tryd.prog.readableRec 32 = true := by kernel_rfl

/-- Bulk: each value counts one at least. -/
theorem bulk_pos {H : Type} (d : DataW H) : 1 ≤ Rows.uptoBulk d := by
  cases d with
  | lit l => cases l <;> simp [Rows.uptoBulk]
  | _ => simp [Rows.uptoBulk]
theorem bulk_len {H : Type} (l : List (DataW H)) : l.length ≤ Rows.uptoBulkAll l := by
  induction l with
  | nil => simp [Rows.uptoBulkAll]
  | cons d l ih =>
    have := bulk_pos d
    simp only [Rows.uptoBulkAll, List.length_cons]
    omega

set_option maxRecDepth 100000 in
theorem contract (H : Type) (enc : TypeId × Value → H) (W : World) (base : Nat) (args : Array Value) (ds gs : List (DataW H)) (before : List MemPlace)
    (hval0 : ∀ (j : Nat) t v, Tryd.f4.params[j]? = some t → args[j]? = some v → Value.okWide Tryd.prog W .any base t v)
    (hW : DataW.Whole enc Tryd.prog Tryd.f4.params.toList Rows.manifestsSpec.vars false W args.toList ds gs before) (hL : laidMetH Tryd.prog Rows.manifestsUptoRow.laid W) (hk : Rows.uptoBulkAll (ds ++ gs) ≤ 1048576) :
    Calls Tryd.prog 4 args W fun e W' => ∃ v, e = .returned v ∧ Rows.manifestsSpec.post enc Tryd.prog Tryd.f4 false true false false W args v W' := by
  have hval : ∀ (j : Nat) t v, Tryd.f4.params[j]? = some t → args[j]? = some v → Value.okWide Tryd.prog W .any base t v := hval0
  have hW' := hW
  obtain ⟨p, q, hA0, hV, rfl, hfz, hnd⟩ := hW
  have hA : DataW.TrodAll enc Tryd.prog W 0 (fun _ => true) true Tryd.f4.params.toList args.toList ds p := hA0
  rw [Tryd.params4] at hA hval
  obtain ⟨v0, vs0, d0, ds0, p0, q0, hargs, rfl, rfl, h0, r0⟩ := trodAll_cons hA
  obtain ⟨v1, vs1, d1, ds1, p1, q1, rfl, rfl, rfl, h1, r1⟩ := trodAll_cons r0
  obtain ⟨rfl, rfl, rfl⟩ := trodAll_nil r1
  obtain rfl : args = #[v0, v1] := by cases args; simp_all
  obtain ⟨rfl, rfl⟩ := trodVars_none hV
  have t0 := h0
  have hlt : ∀ x ∈ p0 ++ (p1 ++ []), x.block < W.heap.size := fun x hx => by simpa using hW'.lt x (by simpa using hx)
  obtain ⟨c0, c1, c2, c3, c4, y0, y1, y2, y3, y4, n, rfl, rfl, hp0, t0', t1, t2, t3, t4⟩ := Five.open_agg5 Tryd.underlying32 (by kernel_rfl) (by kernel_rfl) (hval 0 32 v0 rfl rfl) h0
  obtain ⟨k, e0, rfl, wk⟩ := DataW.trod_int Tryd.underlying3 t0'
  obtain ⟨rt, e1, rfl, wrt⟩ := DataW.trod_int Tryd.underlying3 t1
  obtain ⟨sz, e2, rfl, wsz⟩ := DataW.trod_int Tryd.underlying3 t2
  obtain ⟨tt, e3, rfl, wtt⟩ := DataW.trod_int Tryd.underlying3 t3
  cases e0; cases e1; cases e2; cases e3
  obtain ⟨s, rfl, rfl, rfl, ws⟩ := open_string Tryd.underlying9 (hval 1 9 v1 rfl rfl) h1
  rw [MakeChecks.laidMetH_plain _ _ _ (by kernel_rfl)] at hL
  obtain ⟨A, hS⟩ := Sn.sents_of_laid hL sents_mem
  have hT := tab_of_laid hL
  clear hA0 hval0
  simp only [List.append_nil, List.cons_append, List.nil_append, Rows.uptoBulkAll, Rows.uptoBulk] at hk
  have key : ∃ raw : List Int, Tw.IRow W c4 raw ∧ raw.length ≤ 1048576 := by
    rcases open_ints Tryd.underlying30 Tryd.underlying3 cellsInt t4 with ⟨hcs, hx⟩ | ⟨ad, len', cap', zs, hcs, _, hl, hm, hz, hx, hcell, hwz⟩
    · simp only [List.cons.injEq, and_true] at hcs
      subst hcs
      exact ⟨[], ⟨none, 0, rfl, fun i hi => absurd hi (Nat.not_lt_zero i)⟩, by simp⟩
    · simp only [List.cons.injEq, and_true] at hcs
      subst hcs
      simp at hz
      have hlen : (zs.take len').length = len' := by rw [List.length_take]; omega
      have hbk : (zs.take len').length ≤ Rows.uptoBulk y4.1 := by
        rw [hx]
        simp only [Rows.uptoBulk]
        have := bulk_len (H := H) (lits .i64 (zs.take len'))
        simp only [lits, List.length_map] at this
        unfold lits
        omega
      refine ⟨zs.take len', ⟨some ad, cap', by rw [hlen], fun i hi => ⟨ad, rfl, ?_⟩⟩, by omega⟩
      have h := hcell i (by omega)
      rw [h, List.getElem_take]
      simp [List.getD, show i < zs.length by omega]
  obtain ⟨raw, hI, hrl⟩ := key
  have hsl := Sn.len_list s
  have hwalk := Tw.manLaw_any A W.heap.size ⟨k, rt, sz, tt, raw⟩ c4 s.data.toList W hS hT hT.lt hI hrl (by omega)
  unfold Tw.manV at hwalk
  simp only [Tw.S_of] at hwalk
  refine hwalk.mono fun e W' ⟨he, hb⟩ => ?_
  subst he
  have s0 := Below.trod laidOut rowed (of_decide_eq_true (by kernel_rfl)) t0 hb (fun x hx => hlt x (by simp [hx]))
  simp only [List.append_nil, List.nil_append] at hW'
  refine ⟨_, rfl, _, _, _, [], p0 ++ ([] ++ []), [], hW', ?_, ?_, ?_, hb.frame _, fun h => by cases h⟩
  · exact trodAll_mk1 (shut_bool Tryd.underlying4 true)
  · exact trodAll_cons_mk s0 (trodAll_cons_mk (shut_string Tryd.underlying9 ws) trodAll_mk0)
  · rfl

/-- The witness: the empty manifest, no bytes. -/
def wargs : Array Value := #[.agg #[.int .i64 0, .int .i64 0, .int .i64 0, .int .i64 0, .slice none 0 0], .string ByteArray.empty]
theorem reads (os : Os) {H : Type} (enc : TypeId × Value → H) : ∃ places, DataW.whole enc Tryd.prog ((World.laidAll Tryd.prog os Rows.manifestsUptoRow.laid).forCall (fun _ _ => 0) ⟨#[], wargs, []⟩).memory Tryd.f4.params.toList Rows.manifestsSpec.vars false wargs.toList 8 = some ([.agg [.lit (.int .i64 0), .lit (.int .i64 0), .lit (.int .i64 0), .lit (.int .i64 0), .nil], .lit (.string [])], [], places) :=
  ⟨[], by kernel_rfl⟩
set_option maxRecDepth 100000 in
theorem witness (os : Os) (H : Type) (enc : TypeId × Value → H) :
    ∃ (w : World) (tape : Tape) (i : Input), w.os = os ∧ (w.forCall tape i).Shaped Tryd.prog ∧ i.vars = [] ∧ Input.okWide Tryd.prog (w.forCall tape i) .any w.heap.size 4 i ∧
      (Rows.OpenSpec.upto Rows.manifestsSpec).preRow enc Tryd.prog Tryd.f4 Rows.manifestsUptoRow.domain false Rows.manifestsUptoRow.laid (w.forCall tape i).memory i.args ∧ ({} : Assume).holds Tryd.prog (lone (Frame.enter Tryd.prog 4 i.args .normal) [] (w.forCall tape i)) := by
  obtain ⟨places, hx⟩ := reads os enc
  have hok : Input.okWideB Tryd.prog ((World.laidAll Tryd.prog os Rows.manifestsUptoRow.laid).forCall (fun _ _ => 0) ⟨#[], wargs, []⟩) 4 ⟨#[], wargs, []⟩ = true := by kernel_rfl
  refine ⟨World.laidAll Tryd.prog os Rows.manifestsUptoRow.laid, fun _ _ => 0, ⟨#[], wargs, []⟩, World.laidAll_os _ _ _, World.shaped_of_ZipB (by kernel_rfl) (by kernel_rfl), (Input.okWide_of_okWideB (base := 0) hok).1, (Input.okWide_of_okWideB hok).2, ?_, ?_⟩
  · exact OpenSpec.preRow_of_cond 8 hx (by kernel_rfl) (fun k hk => by cases hk; kernel_rfl) (by kernel_rfl) (by rw [MakeChecks.laidMetH_plain _ _ _ (by kernel_rfl)]; exact laidMet_laidAll _ (by kernel_rfl) (by kernel_rfl))
  · simp only [Assume.holds]
    exact ⟨by simp, by simp, fun _ => Modest.zero, by simp, by simp⟩

set_option maxRecDepth 100000 in
theorem lifted (os : Os) (started : os.Started) (H : Type) (enc : TypeId × Value → H) (F : Stop.Interp) :
    ReturnsInHanded {} Tryd.checked os 4 .any ((Rows.OpenSpec.upto Rows.manifestsSpec).preRow enc Tryd.prog Tryd.f4 Rows.manifestsUptoRow.domain false Rows.manifestsUptoRow.laid) (((Rows.OpenSpec.upto Rows.manifestsSpec).at F).post enc Tryd.prog Tryd.f4 false true false false) := by
  refine returnsInHanded_of_row (C := Tryd.checked) (s := Rows.OpenSpec.upto Rows.manifestsSpec) own started (by kernel_rfl) Tryd.func4 (witness os H enc) ?_
  intro W base args ds gs before hval hW _ hcond _ hL _ _
  have hk : Rows.uptoBulkAll (ds ++ gs) ≤ 1048576 := by
    have h := hcond _ rfl
    unfold Rows.uptoSmall at h
    exact of_decide_eq_true h
  exact contract H enc W base args ds gs before hval hW hL hk

theorem over : Rows.ManifestsUptoSaid :=
  OpenClaim.holds_of_cond 4 Tryd.f4 rfl rfl rfl rfl rfl rfl rfl ⟨rfl, rfl, rfl, rfl, rfl⟩ rfl rfl rfl rfl rfl (by kernel_rfl) Tryd.func4 (by kernel_rfl)
    (of_decide_eq_true (by kernel_rfl)) (by unfold Func.isWrapper; first | (rw [if_pos (by decide +kernel)]; kernel_rfl) | (rw [if_neg (by decide +kernel)]; exact ⟨rfl, rfl⟩))
    (fun os started H enc _ F => by rw [OpenClaim.pre_eq_preRow]; exact lifted os started H enc F)

/-- The statement: the card. -/
theorem proved : Rows.ManifestsUptoCardSaid :=
  Claim7.holds_tied_plain_at .later [] Rows.manifestsUptoCard.laidKinds true Rows.manifestsUptoCard.stood.harness true over (fun _ h => by cases h) (by kernel_rfl) (fun _ h => by cases h) manifestsUpto_row_tie rfl ⟨rfl, rfl⟩ (by kernel_rfl) rfl
    (fun f fn hf hfn => by
      obtain rfl : f = 4 := Option.some.inj ((show Tryd.prog.funcNamed "twig/twiglaw.Manifests" = some 4 by kernel_rfl).symm.trans hf) |>.symm
      obtain rfl : fn = Tryd.f4 := (Option.some.inj (Tryd.func4.symm.trans hfn)).symm
      exact ⟨by kernel_rfl, fun j t ht => by
        rw [Tryd.params4] at ht
        have hm : t ∈ [32, 9] := by simpa using Array.mem_of_getElem? ht
        have hall : ([32, 9].all fun u => !Tryd.prog.wantsStandIn u) = true := by kernel_rfl
        exact (show Tryd.prog.wantsStandIn t = false by simpa using List.all_eq_true.1 hall t hm)⟩)
    (by kernel_rfl)
end Go.Proofs.YtddcbeeldjjmeaaDoor.manifests
