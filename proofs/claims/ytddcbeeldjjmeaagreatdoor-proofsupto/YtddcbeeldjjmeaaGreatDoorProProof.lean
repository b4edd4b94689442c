/- For every proof and every text, where what comes in is of bulk at most 1048576, the statement Proofs answers true, and its arguments read afterwards as before; no condition besides but what the row lists of package-level variables, which the card ties to the program's text. -/
import Derived.Test.YtddcbeeldjjmeaaGreatDoorTie
import Derived.Test.YtddcbeeldjjmeaaGreatDoorCards
import Derived.Test.YtddcbeeldjjmeaaGreatDoorOpenU
import Derived.Test.YtddcbeeldjjmeaaGreatDoorProF
import Derived.Test.YtddcbeeldjjmeaaGreatDoorLeave
import Derived.Test.YtddcbeeldjjmeaaGreatDoorLeaveC
import Derived.Lib.LaidTab
import Derived.Stop.LaidErr
import Derived.ProofKit
import Derived.OpenShut
import Derived.LaidMore
import Derived.Lay
import Derived.SevenTiedAt
import Derived.Stop.Joined
import Derived.JoinedCond
import Derived.Carry
import Derived.Deep.DeepHandedRow
namespace Go.Proofs.YtddcbeeldjjmeaaGreatDoor.proofs
open Go.ChangeShapes Go.WideShapes Go.ChangeAt Go.RowKit
open Go.ChangeMaps (open_string shut_string)
set_option linter.unusedVariables false
set_option linter.unusedSimpArgs false

theorem own : ownKnob Tryz.prog.godebug = none := by kernel_rfl

theorem sents_mem (g : Nat) (hg : g ∈ Tw.sents) : ∃ text, (Sn.nameOf g, Sn.sentD "*errors.errorString" text) ∈ Rows.proofsUptoRow.laid := by
  simp only [Tw.sents, Tw.ways, Tw.nob, List.mem_cons, List.mem_nil_iff, or_false] at hg
  rcases hg with rfl | rfl | rfl | rfl | rfl | rfl | rfl | rfl | rfl | rfl | rfl | rfl | rfl | rfl | rfl
  all_goals
    refine ⟨?_, ?_⟩
    rotate_left
    repeat (first | exact List.Mem.head _ | refine List.Mem.tail _ ?_)

theorem tab_of_laid {W : World} (hL : laidMet Tryz.prog Rows.proofsUptoRow.laid W) : Tw.Tab W := by
  have h := laidMet.tail (laidMet.tail hL)
  exact Lib.tabIs_of_head (g := 23) (n := 20) (zs := Lib.pow10Tab) (by kernel_rfl) (by kernel_rfl) Tryz.underlying397 Tryz.underlying219 (by kernel_rfl) (by kernel_rfl) h

theorem laidOut : laidOutB Tryz.prog = true := by kernel_rfl
theorem rowed : Tryz.prog.readableRec 26 = true := by kernel_rfl

/-- Bulk: each value counts one at least. -/
theorem bulk_pos {H : Type} (d : DataW H) : 1 ≤ Rows.uptoBulk d := by
  cases d with
  | lit l => cases l <;> simp [Rows.uptoBulk]
  | _ => simp [Rows.uptoBulk]
theorem bulk_len {H : Type} (l : List (DataW H)) : l.length ≤ Rows.uptoBulkAll l := by
  induction l with
  | nil => simp [Rows.uptoBulkAll]
  | cons d l ih =>
    have := bulk_pos d
    simp only [Rows.uptoBulkAll, List.length_cons]
    omega

set_option maxRecDepth 100000 in
theorem contract (H : Type) (enc : TypeId × Value → H) (W : World) (base : Nat) (args : Array Value) (ds gs : List (DataW H)) (before : List MemPlace)
    (hval0 : ∀ (j : Nat) t v, Tryz.f3.params[j]? = some t → args[j]? = some v → Value.okWide Tryz.prog W .any base t v)
    (hW : DataW.Whole enc Tryz.prog Tryz.f3.params.toList Rows.proofsSpec.vars false W args.toList ds gs before) (hL : laidMetH Tryz.prog Rows.proofsUptoRow.laid W) (hk : Rows.uptoBulkAll (ds ++ gs) ≤ 1048576) :
    Calls Tryz.prog 3 args W fun e W' => ∃ v, e = .returned v ∧ Rows.proofsSpec.post enc Tryz.prog Tryz.f3 false true false false W args v W' := by
  have hval : ∀ (j : Nat) t v, Tryz.f3.params[j]? = some t → args[j]? = some v → Value.okWide Tryz.prog W .any base t v := hval0
  have hW' := hW
  obtain ⟨p, q, hA0, hV, rfl, hfz, hnd⟩ := hW
  have hA : DataW.TrodAll enc Tryz.prog W 0 (fun _ => true) true Tryz.f3.params.toList args.toList ds p := hA0
  rw [Tryz.params3] at hA hval
  obtain ⟨v0, vs0, d0, ds0, p0, q0, hargs, rfl, rfl, h0, r0⟩ := trodAll_cons hA
  obtain ⟨v1, vs1, d1, ds1, p1, q1, rfl, rfl, rfl, h1, r1⟩ := trodAll_cons r0
  obtain ⟨rfl, rfl, rfl⟩ := trodAll_nil r1
  obtain rfl : args = #[v0, v1] := by cases args; simp_all
  obtain ⟨rfl, rfl⟩ := trodVars_none hV
  have t0 := h0
  have hlt : ∀ x ∈ p0 ++ (p1 ++ []), x.block < W.heap.size := fun x hx => by simpa using hW'.lt x (by simpa using hx)
  obtain ⟨cs, rfl, hsz⟩ := okWide_struct Tryz.underlying26 (hval 0 26 v0 rfl rfl)
  rw [OpU.cProof] at hsz
  obtain ⟨cl⟩ := cs
  have hsz' : cl.length = 6 := by simpa using hsz
  match cl, hsz' with
  | [c0, c1, c2, c3, c4, c5], _ =>
    obtain ⟨fuel, hf⟩ := h0
    obtain ⟨xs, n, _, hx, hxl, hlen, hfld⟩ := DataW.trod_struct Tryz.underlying26 hf
    match xs, hlen with
    | [y0, y1], _ =>
      have g0 := hfld 0 _ rfl
      have g1 := hfld 1 _ rfl
      simp [Value.cells, OpU.cNode, OpU.cUps] at g0 g1
      obtain ⟨b0, b1, b2, b3, b4, n2, hy0, _, t0', t1, t2, t3, t4⟩ := Five.trod_struct5 Tryz.underlying23 g0
      simp [OpU.cInt, OpU.cStr] at t0' t1 t2 t3 t4
      obtain ⟨k, e0, _, wk⟩ := DataW.trod_int Tryz.underlying3 t0'
      obtain ⟨sp, e1, _, wsp⟩ := DataW.trod_string Tryz.underlying9 t1
      obtain ⟨sv, e2, _, wsv⟩ := DataW.trod_string Tryz.underlying9 t2
      obtain ⟨x, e3, _, wx⟩ := DataW.trod_int Tryz.underlying3 t3
      obtain ⟨y, e4, _, wy⟩ := DataW.trod_int Tryz.underlying3 t4
      cases e0; cases e1; cases e2; cases e3; cases e4
      obtain ⟨us, hU, hup, hul⟩ := OpU.open_ups g1
      obtain ⟨s, rfl, rfl, rfl, ws⟩ := open_string Tryz.underlying9 (hval 1 9 v1 rfl rfl) h1
      rw [MakeChecks.laidMetH_plain _ _ _ (by kernel_rfl)] at hL
      obtain ⟨A, hS⟩ := Sn.sents_of_laid hL sents_mem
      have hT := tab_of_laid hL
      clear hA0 hval0
      simp only [Prod.mk.injEq] at hx
      obtain ⟨rfl, hpl⟩ := hx
      simp only [List.append_nil, List.cons_append, List.nil_append, List.map_cons, List.map_nil, Rows.uptoBulkAll, Rows.uptoBulk] at hk
      have hrl : us.length ≤ 1048576 := by
        rcases hul with ⟨_, rfl⟩ | ⟨elems, rest, he, hl⟩
        · simp
        · rw [he] at hk
          simp only [Rows.uptoBulk] at hk
          have := bulk_len elems
          omega
      have hsl := Sn.len_list s
      have hwalk := Tw.proLaw_any A W.heap.size ⟨⟨k, sp.data.toList, sv.data.toList, x, y⟩, us⟩ c5 s.data.toList W hS hT hT.lt hU hrl
        (by have h := Sn.len_list sp; unfold maxLen at wsp; show sp.data.toList.length ≤ _; omega) (fun u hu => by have h := hup u hu; unfold maxLen at h; omega) (by omega)
      unfold Tw.prfV at hwalk
      simp only [Tw.S_of] at hwalk
      refine hwalk.mono fun e W' ⟨he, hb⟩ => ?_
      subst he
      have s0 := Below.trod laidOut rowed (of_decide_eq_true (by kernel_rfl)) t0 hb (fun x hx => hlt x (by simp [hx]))
      simp only [List.append_nil, List.nil_append] at hW'
      refine ⟨_, rfl, _, _, _, [], p0 ++ ([] ++ []), [], hW', ?_, ?_, ?_, hb.frame _, fun h => by cases h⟩
      · exact trodAll_mk1 (shut_bool Tryz.underlying4 true)
      · exact trodAll_cons_mk s0 (trodAll_cons_mk (shut_string Tryz.underlying9 ws) trodAll_mk0)
      · rfl

/-- The witness: the empty proof, no bytes. -/
def wargs : Array Value := #[.agg #[.int .i64 0, .string ByteArray.empty, .string ByteArray.empty, .int .i64 0, .int .i64 0, .slice none 0 0], .string ByteArray.empty]
theorem reads (os : Os) {H : Type} (enc : TypeId × Value → H) : ∃ places, DataW.whole enc Tryz.prog ((World.laidAll Tryz.prog os Rows.proofsUptoRow.laid).forCall (fun _ _ => 0) ⟨#[], wargs, []⟩).memory Tryz.f3.params.toList Rows.proofsSpec.vars false wargs.toList 8 = some ([.agg [.agg [.lit (.int .i64 0), .lit (.string []), .lit (.string []), .lit (.int .i64 0), .lit (.int .i64 0)], .nil], .lit (.string [])], [], places) :=
  ⟨[], by kernel_rfl⟩
theorem wok (os : Os) : Input.okWideB Tryz.prog ((World.laidAll Tryz.prog os Rows.proofsUptoRow.laid).forCall (fun _ _ => 0) ⟨#[], wargs, []⟩) 3 ⟨#[], wargs, []⟩ = true := by kernel_rfl
theorem wshaped (os : Os) : ((World.laidAll Tryz.prog os Rows.proofsUptoRow.laid).forCall (fun _ _ => 0) ⟨#[], wargs, []⟩).Shaped Tryz.prog := World.shaped_of_ZipB (by kernel_rfl) (by kernel_rfl)
theorem wlaid (os : Os) : laidMetH Tryz.prog Rows.proofsUptoRow.laid ((World.laidAll Tryz.prog os Rows.proofsUptoRow.laid).forCall (fun _ _ => 0) ⟨#[], wargs, []⟩).memory := by
  rw [MakeChecks.laidMetH_plain _ _ _ (by kernel_rfl)]; exact laidMet_laidAll _ (by kernel_rfl) (by kernel_rfl)
theorem wsized (os : Os) (H : Type) (enc : TypeId × Value → H) : (Rows.OpenSpec.upto Rows.proofsSpec).bare.sizedB enc Tryz.prog Tryz.f3 false ((World.laidAll Tryz.prog os Rows.proofsUptoRow.laid).forCall (fun _ _ => 0) ⟨#[], wargs, []⟩).memory wargs 8 = true := by kernel_rfl
set_option maxRecDepth 100000 in
theorem witness (os : Os) (H : Type) (enc : TypeId × Value → H) :
    ∃ (w : World) (tape : Tape) (i : Input), w.os = os ∧ (w.forCall tape i).Shaped Tryz.prog ∧ i.vars = [] ∧ Input.okWide Tryz.prog (w.forCall tape i) .any w.heap.size 3 i ∧
      (Rows.OpenSpec.upto Rows.proofsSpec).preRow enc Tryz.prog Tryz.f3 Rows.proofsUptoRow.domain false Rows.proofsUptoRow.laid (w.forCall tape i).memory i.args ∧ ({} : Assume).holds Tryz.prog (lone (Frame.enter Tryz.prog 3 i.args .normal) [] (w.forCall tape i)) := by
  obtain ⟨places, hx⟩ := reads os enc
  refine ⟨World.laidAll Tryz.prog os Rows.proofsUptoRow.laid, fun _ _ => 0, ⟨#[], wargs, []⟩, World.laidAll_os _ _ _, wshaped os, (Input.okWide_of_okWideB (base := 0) (wok os)).1, (Input.okWide_of_okWideB (wok os)).2, ?_, ?_⟩
  · exact OpenSpec.preRow_of_cond 8 hx (by kernel_rfl) (fun k hk => by cases hk; kernel_rfl) (wsized os H enc) (wlaid os)
  · simp only [Assume.holds]
    exact ⟨by simp, by simp, fun _ => Modest.zero, by simp, by simp⟩

set_option maxRecDepth 100000 in
theorem lifted (os : Os) (started : os.Started) (H : Type) (enc : TypeId × Value → H) (F : Stop.Interp) :
    ReturnsInHanded {} Tryz.checked os 3 .any ((Rows.OpenSpec.upto Rows.proofsSpec).preRow enc Tryz.prog Tryz.f3 Rows.proofsUptoRow.domain false Rows.proofsUptoRow.laid) (((Rows.OpenSpec.upto Rows.proofsSpec).at F).post enc Tryz.prog Tryz.f3 false true false false) := by
  refine returnsInHanded_of_row (C := Tryz.checked) (s := Rows.OpenSpec.upto Rows.proofsSpec) own started (by kernel_rfl) Tryz.func3 (witness os H enc) ?_
  intro W base args ds gs before hval hW _ hcond _ hL _ _
  have hk : Rows.uptoBulkAll (ds ++ gs) ≤ 1048576 := by
    have h := hcond _ rfl
    unfold Rows.uptoSmall at h
    exact of_decide_eq_true h
  exact contract H enc W base args ds gs before hval hW hL hk

theorem lifted2 (os : Os) (started : os.Started) (H : Type) (enc : TypeId × Value → H) (F : Stop.Interp) :
    ReturnsInLeavingWide {} Tryz.checked os 3 .any ((Rows.OpenSpec.upto Rows.proofsSpec).preRow enc Tryz.prog Tryz.f3 Rows.proofsUptoRow.domain false Rows.proofsUptoRow.laid) (((Rows.OpenSpec.upto Rows.proofsSpec).at F).post enc Tryz.prog Tryz.f3 false true false false) :=
  leavingWide_of_handed (lifted os started H enc F)

theorem named : Tryz.pinned.checked.prog.funcNamed Rows.proofsUptoRow.func = some 3 := by kernel_rfl
theorem inst : Tryz.f3.isInstance Tryz.pinned.checked.prog Rows.proofsUptoRow.origin Rows.proofsUptoRow.targs := of_decide_eq_true (by kernel_rfl)
theorem wrapped : Tryz.f3.isWrapper Tryz.pinned.checked.prog Rows.proofsUptoRow.wrapper Rows.proofsUptoRow.mainSum := by
  unfold Func.isWrapper; first | (rw [if_pos (by decide +kernel)]; kernel_rfl) | (rw [if_neg (by decide +kernel)]; exact ⟨rfl, rfl⟩)
theorem over : Rows.ProofsUptoSaid :=
  holds_of_cond_leaving 3 Tryz.f3 rfl rfl rfl rfl rfl rfl rfl ⟨rfl, rfl, rfl, rfl, rfl⟩ rfl rfl rfl rfl rfl named Tryz.func3 facts inst wrapped
    (fun os started H enc _ F => by rw [OpenClaim.pre_eq_preRow]; exact lifted2 os started H enc F)

/-- The statement: the card. -/
theorem proved : Rows.ProofsUptoCardSaid :=
  holds_tied_goes .later Rows.proofsUptoCard.laidKinds true Rows.proofsUptoCard.stood.harness true true over (by kernel_rfl) proofsUpto_row_tie rfl ⟨rfl, rfl⟩ (by kernel_rfl) rfl
    (fun f fn hf hfn => by
      obtain rfl : f = 3 := Option.some.inj ((show Tryz.prog.funcNamed "twig/twiglaw.Proofs" = some 3 by kernel_rfl).symm.trans hf) |>.symm
      obtain rfl : fn = Tryz.f3 := (Option.some.inj (Tryz.func3.symm.trans hfn)).symm
      exact ⟨by kernel_rfl, fun j t ht => by
        rw [Tryz.params3] at ht
        have hm : t ∈ [26, 9] := by simpa using Array.mem_of_getElem? ht
        have hall : ([26, 9].all fun u => !Tryz.prog.wantsStandIn u) = true := by kernel_rfl
        exact (show Tryz.prog.wantsStandIn t = false by simpa using List.all_eq_true.1 hall t hm)⟩)
    (by kernel_rfl)
end Go.Proofs.YtddcbeeldjjmeaaGreatDoor.proofs
