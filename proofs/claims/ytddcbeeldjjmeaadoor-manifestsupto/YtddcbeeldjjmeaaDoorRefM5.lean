/- The document's answer: DecodeManifest. -/
import Derived.Test.YtddcbeeldjjmeaaDoorRefO
import Derived.Test.YtddcbeeldjjmeaaDoorEncM
import Derived.Test.YtddcbeeldjjmeaaDoorRefD
import Derived.Test.YtddcbeeldjjmeaaDoorPureM2
import Derived.Test.YtddcbeeldjjmeaaDoorOwnM
import Derived.Deep.AppendLies
namespace Go.Proofs.YtddcbeeldjjmeaaDoor.Tw
open Go.RowKit Go.Proofs.YtddcbeeldjjmeaaDoor.Pu
set_option linter.unusedVariables false
set_option linter.unusedSimpArgs false

theorem MBlk.set1 {w : World} {g : Nat} {a b c d : Int} {v : Value} (h : MBlk w g a b c d v) (x : Int) : MBlk (w.setCell ⟨g, 1, none⟩ (.int .i64 x)) g a x c d v := by
  unfold MBlk at h ⊢
  simp [World.setCell, Array.getElem?_modify, h]
theorem MBlk.set2 {w : World} {g : Nat} {a b c d : Int} {v : Value} (h : MBlk w g a b c d v) (x : Int) : MBlk (w.setCell ⟨g, 2, none⟩ (.int .i64 x)) g a b x d v := by
  unfold MBlk at h ⊢
  simp [World.setCell, Array.getElem?_modify, h]
theorem MBlk.set3 {w : World} {g : Nat} {a b c d : Int} {v : Value} (h : MBlk w g a b c d v) (x : Int) : MBlk (w.setCell ⟨g, 3, none⟩ (.int .i64 x)) g a b c x v := by
  unfold MBlk at h ⊢
  simp [World.setCell, Array.getElem?_modify, h]
theorem rNum_rest (l : List UInt8) : (rNum l).2.length ≤ l.length := by
  unfold rNum
  have key : ∀ (r i acc : Nat) (l : List UInt8), (rNumF r i acc l).2.length ≤ l.length := by
    intro r
    induction r with
    | zero => intro i acc l; simp [rNumF]
    | succ r ih =>
      intro i acc l
      rw [rNumF_step]
      split
      · simp
      · have h2 : (l.drop 1).length ≤ l.length := by simp
        exact Nat.le_trans (ih (i + 1) (acc + (l.getD 0 0).toNat % 128 * 128 ^ i) (l.drop 1)) h2
  exact key _ _ _ _
theorem r4_rest (l : List UInt8) : (r4 l).2.length ≤ l.length := by simp [r4]

theorem OwnI.weaken {a b : Nat} {w : World} {v : Value} {l : List Int} (h : OwnI b w v l) (hab : a ≤ b) : OwnI a w v l := by
  obtain ⟨h1, h2 | ⟨g, cap, cur, hv, hg, h3⟩⟩ := h
  · exact ⟨h1, Or.inl h2⟩
  · exact ⟨h1, Or.inr ⟨g, cap, cur, hv, Nat.le_trans hab hg, h3⟩⟩
/-- The reader at its block, the answer's block, the manifest that is read. -/
structure St (w W : World) (bm : Nat) (l : List UInt8) (a b c d : Int) (v : Value) : Prop where
  rd : W.cell? ⟨w.heap.size + 1, 0, none⟩ = some (.string (S l))
  fz : W.frozen? ⟨w.heap.size + 1, 0, none⟩ = false
  z : MBlk W w.heap.size 0 0 0 0 (.slice none 0 0)
  m : MBlk W bm a b c d v
  be : Below w.heap.size w W
  lt : w.heap.size + 1 < bm
theorem St.adv {w W W' : World} {bm : Nat} {l l' : List UInt8} {a b c d : Int} {v : Value} (h : St w W bm l a b c d v) (k : Adv ⟨w.heap.size + 1, 0, none⟩ l' W W') : St w W' bm l' a b c d v :=
  have hm := h.m.lt
  have hl := h.lt
  ⟨k.rest, k.mark, h.z.keep (k.block _ h.z.lt (by show w.heap.size ≠ w.heap.size + 1; omega)), h.m.keep (k.block _ hm (by show bm ≠ w.heap.size + 1; omega)), h.be.trans (k.below (by show w.heap.size ≤ w.heap.size + 1; omega) (by have := h.z.lt; omega)), h.lt⟩
theorem St.put {w W : World} {bm : Nat} {l : List UInt8} {a b c d a' b' c' d' : Int} {v v' : Value} {o : Nat} {x : Value} (h : St w W bm l a b c d v) (hm : MBlk (W.setCell ⟨bm, o, none⟩ x) bm a' b' c' d' v') : St w (W.setCell ⟨bm, o, none⟩ x) bm l a' b' c' d' v' := by
  have hl := h.lt
  have e : ∀ j, j ≠ bm → (W.setCell ⟨bm, o, none⟩ x).heap[j]? = W.heap[j]? := fun j hj => Below.heap_setCell _ _ _ _ hj
  refine ⟨?_, ?_, h.z.keep (e _ (by omega)), hm, below_set h.be _ _ _ (by omega), h.lt⟩
  · rw [World.cell?_of_block (w := W) (e _ (by show w.heap.size + 1 ≠ bm; omega))]; exact h.rd
  · rw [World.frozen?_setCell]; exact h.fz
theorem St.grown {w W W' : World} {bm : Nat} {l : List UInt8} {a b c d : Int} {v : Value} (h : St w W bm l a b c d v) (k : ∀ j, j < W.heap.size → j ≤ bm → W'.heap[j]? = W.heap[j]?) (kb : Below w.heap.size w W') : St w W' bm l a b c d v := by
  have hl := h.lt
  have hm := h.m.lt
  have e := k (w.heap.size + 1) (by omega) (by omega)
  refine ⟨?_, ?_, h.z.keep (k _ (by omega) (by omega)), h.m.keep (k _ hm (Nat.le_refl _)), kb, hl⟩
  · rw [World.cell?_of_block (w := W) e]; exact h.rd
  · rw [World.frozen?_of_block (w := W) e]; exact h.fz

set_option maxRecDepth 20000 in
set_option maxHeartbeats 4000000 in
theorem rdecM_of (hkE : ∀ (m : Mf) (v : Value) (w : World), IRow w v m.digests → Calls Tryd.prog 10 #[manV m v] w fun e w' => e = .returned (.tuple #[.string (S (encMB m)), .int .i64 (encME m)]) ∧ Below w.heap.size w w') (l : List UInt8) (w : World) (hl : l.length ≤ 1048576) :
    Calls Tryd.prog 13 #[.string (S l)] w fun e w' => ∃ (m : Mf) (u : Value) (x : Int), e = .returned (.tuple #[manV m u, .int .i64 x]) ∧ OwnI w.heap.size w' u m.digests ∧ ((decM l = some m ∧ x = 0) ∨ (decM l = none ∧ m = ⟨0, 0, 0, 0, []⟩ ∧ x = 4)) ∧ Below w.heap.size w w' := by
  have hk1 := fun rb w hc hf => rone_any rb l w (by omega) hc hf
  obtain ⟨n1, hn1⟩ : ∃ n, n = (l.getD 0 0).toNat := ⟨_, rfl⟩
  obtain ⟨l1, hl1⟩ : ∃ l', l' = l.drop 1 := ⟨_, rfl⟩
  obtain ⟨n2, hn2⟩ : ∃ n, n = (r4 l1).1 := ⟨_, rfl⟩
  obtain ⟨l2, hl2⟩ : ∃ l', l' = (r4 l1).2 := ⟨_, rfl⟩
  obtain ⟨n3, hn3⟩ : ∃ n, n = (rNum l2).1 := ⟨_, rfl⟩
  obtain ⟨l3, hl3⟩ : ∃ l', l' = (rNum l2).2 := ⟨_, rfl⟩
  obtain ⟨n4, hn4⟩ : ∃ n, n = (rNum l3).1 := ⟨_, rfl⟩
  obtain ⟨l4, hl4⟩ : ∃ l', l' = (rNum l3).2 := ⟨_, rfl⟩
  have hm : rM l = ⟨n1, n2, n3, n4, rDs l4⟩ := by unfold rM; simp only [hn1, hn2, hn3, hn4, hl1, hl2, hl3, hl4]
  have z1 : l1.length ≤ 1048576 := by rw [hl1]; simp; omega
  have z2 : l2.length ≤ 1048576 := by rw [hl2]; have := r4_rest l1; omega
  have z3 : l3.length ≤ 1048576 := by rw [hl3]; have := rNum_rest l2; omega
  have z4 : l4.length ≤ 1048576 := by rw [hl4]; have := rNum_rest l3; omega
  have hk2 := fun rb w hc hf => rfour_rd rb l1 w (by omega) hc hf
  have hk3 := fun rb w hc hf => rnumber_rd rb l2 w (by omega) hc hf
  have hk4 := fun rb w hc hf => rnumber_rd rb l3 w (by omega) hc hf
  rw [← hn1, ← hl1] at hk1
  rw [← hn2, ← hl2] at hk2
  rw [← hn3, ← hl3] at hk3
  rw [← hn4, ← hl4] at hk4
  have HM : Hid _ := hm
  clear hm hn1 hl1 hn2 hl2 hn3 hl3 hn4 hl4
  go_enter Tryd.func13, Tryd.ntmps13
  go_wp2_with fail
  refine (hk1 _ _ (by simp) (by simp)).mono ?_
  rintro e w1 ⟨rfl, hb1⟩
  have hs1 : w.heap.size + 2 ≤ w1.heap.size := by have := hb1.size; simp at this; omega
  have hc1 := hb1.rest
  have hf1 := hb1.mark
  have hz1 : MBlk w1 w.heap.size 0 0 0 0 (.slice none 0 0) := (hb1.block w.heap.size (by simp; omega) (by show w.heap.size ≠ w.heap.size + 1; omega)).trans ((Below.heap_alloc _ _ _ (by simp)).trans (heap_alloc_new w _))
  have hB1 : Below w.heap.size w w1 := (((Below.refl _ w).alloc (Nat.le_refl _) _).alloc (by simp) _).trans (hb1.below (by show w.heap.size ≤ w.heap.size + 1; omega) (by simp; omega))
  go_wp2_with fail
  have hw2 : Below w1.heap.size w1 (w1.alloc (.cells #[.int .i64 n1, .int .i64 0, .int .i64 0, .int .i64 0, .slice none 0 0] 32)) := (Below.refl _ w1).alloc (Nat.le_refl _) _
  have h2 : St w (w1.alloc (.cells #[.int .i64 n1, .int .i64 0, .int .i64 0, .int .i64 0, .slice none 0 0] 32)) w1.heap.size l1 n1 0 0 0 (.slice none 0 0) :=
    ⟨(hw2.cell (by show w.heap.size + 1 < w1.heap.size; omega)).trans hc1, (hw2.frozen (by show w.heap.size + 1 < w1.heap.size; omega)).trans hf1, hz1.keep (hw2.block _ (by omega)), heap_alloc_new w1 _, hB1.alloc (by omega) _, by omega⟩
  clear hb1 hk1 hw2 hc1 hf1 hz1 hB1
  generalize hbm : w1.heap.size = bm at *
  generalize w1.alloc (.cells #[.int .i64 n1, .int .i64 0, .int .i64 0, .int .i64 0, .slice none 0 0] 32) = W2 at *
  refine (hk2 _ _ h2.rd h2.fz).mono ?_
  rintro e w3 ⟨rfl, hb3⟩
  have h3 := h2.adv hb3
  have h3' := h3.put (h3.m.set1 n2)
  obtain ⟨m0, m1, m2, m3, m4⟩ := h3.m.cells
  have hmk := h3.m.mark
  clear hb3 h2 h3 hk2
  go_wp2_with fail
  clear m0 m1 m2 m3 m4 hmk
  generalize w3.setCell ⟨bm, 1, none⟩ (.int .i64 n2) = W3 at *
  refine (hk3 _ _ h3'.rd h3'.fz).mono ?_
  rintro e w4 ⟨rfl, hb4⟩
  have h4 := h3'.adv hb4
  have h4' := h4.put (h4.m.set2 n3)
  obtain ⟨m0, m1, m2, m3, m4⟩ := h4.m.cells
  have hmk := h4.m.mark
  clear hb4 h3' h4 hk3
  go_wp2_with fail
  clear m0 m1 m2 m3 m4 hmk
  generalize w4.setCell ⟨bm, 2, none⟩ (.int .i64 n3) = W4 at *
  refine (hk4 _ _ h4'.rd h4'.fz).mono ?_
  rintro e w5 ⟨rfl, hb5⟩
  have h5 := h4'.adv hb5
  have h5' := h5.put (h5.m.set3 n4)
  obtain ⟨m0, m1, m2, m3, m4⟩ := h5.m.cells
  have hmk := h5.m.mark
  clear hb5 h4' h5 hk4
  go_wp2_with fail
  clear m0 m1 m2 m3 m4 hmk
  generalize w5.setCell ⟨bm, 3, none⟩ (.int .i64 n4) = W5 at *
  obtain ⟨i0, hi, hz0, hz1, hz2⟩ := info_parts i64info
  go_loopw [6] (fun _ wr => ∃ (u : Value) (ds : List Int) (l' : List UInt8), ds ++ rDs l' = rDs l4 ∧ ds.length + l'.length ≤ 1048576 ∧ St w wr bm l' n1 n2 n3 n4 u ∧ OwnI (bm + 1) wr u ds) (fun _ wr => match wr.cell? ⟨w.heap.size + 1, 0, none⟩ with | some (.string t) => t.size | _ => 0)
  case atStart => exact ⟨.slice none 0 0, [], l4, rfl, by simp; omega, h5', OwnI.nil _ _⟩
  case round =>
    obtain ⟨u, ds, l', hds, hlen, hst, hO⟩ := hrel
    have hrd := hst.rd
    have hfz := hst.fz
    have hss := S_size l'
    obtain ⟨m0, m1, m2, m3, m4⟩ := hst.m.cells
    have hmk := hst.m.mark
    cases l' with
    | nil =>
      have he := hkE ⟨n1, n2, n3, n4, ds⟩ u wr hO.irow
      obtain ⟨pu, cu, rfl, _⟩ := hO.irow
      rw [show rDs [] = [] from rfl, List.append_nil] at hds
      have hme : rM l = ⟨n1, n2, n3, n4, ds⟩ := by rw [HM.out, hds]
      rw [← hme] at he
      have HE : Hid _ := hme
      clear hme hds HM hkE
      unfold manV at he
      rw [HE.out] at he
      simp only at he
      rw [← HE.out] at he
      go_wp2_with fail
      refine he.mono ?_
      rintro e w6 ⟨rfl, hb6⟩
      have h6 := hst.grown (fun j hj _ => hb6.block j hj) (hst.be.trans (hb6.mono hst.be.size))
      have hO6 : OwnI (bm + 1) w6 (.slice pu ds.length cu) ds := hO.keep fun j _ hlt => hb6.block j hlt
      clear m0 m1 m2 m3 m4 hmk
      obtain ⟨m0, m1, m2, m3, m4⟩ := h6.m.cells
      obtain ⟨z0, z1, z2, z3, z4⟩ := h6.z.cells
      have hmk := h6.z.mark
      have hlt6 := h6.lt
      have hb66 := h6.be
      have hf5 : ∀ (a b c d : Value) (e : Value) (j : Nat), j ≠ w.heap.size → (((((w6.setCell ⟨w.heap.size, 0, none⟩ a).setCell ⟨w.heap.size, 1, none⟩ b).setCell ⟨w.heap.size, 2, none⟩ c).setCell ⟨w.heap.size, 3, none⟩ d).setCell ⟨w.heap.size, 4, none⟩ e).heap[j]? = w6.heap[j]? := fun a b c d e j hj => by
        rw [Below.heap_setCell _ _ _ _ (show j ≠ w.heap.size from hj), Below.heap_setCell _ _ _ _ (show j ≠ w.heap.size from hj), Below.heap_setCell _ _ _ _ (show j ≠ w.heap.size from hj), Below.heap_setCell _ _ _ _ (show j ≠ w.heap.size from hj), Below.heap_setCell _ _ _ _ (show j ≠ w.heap.size from hj)]
      have hb5 : ∀ (a b c d : Value) (e : Value), Below w.heap.size w (((((w6.setCell ⟨w.heap.size, 0, none⟩ a).setCell ⟨w.heap.size, 1, none⟩ b).setCell ⟨w.heap.size, 2, none⟩ c).setCell ⟨w.heap.size, 3, none⟩ d).setCell ⟨w.heap.size, 4, none⟩ e) := fun a b c d e =>
        below_set (below_set (below_set (below_set (below_set hb66 _ _ _ (Nat.le_refl _)) _ _ _ (Nat.le_refl _)) _ _ _ (Nat.le_refl _)) _ _ _ (Nat.le_refl _)) _ _ _ (Nat.le_refl _)
      have HF5 : Hid _ := hf5
      have HB5 : Hid _ := hb5
      clear he hb6 hst hO h6 hf5 hb5 hb66
      cases hdec : decM l with
      | some m =>
        obtain ⟨e1, e2⟩ := rM_dec l m hdec
        have eB : encMB (rM l) = l := by unfold encMB; rw [e2]
        have eE : encME (rM l) = 0 := by unfold encME; rw [e2]
        have hmm : m = ⟨n1, n2, n3, n4, ds⟩ := by rw [← e1, HE.out]
        rw [eB, eE]
        subst hmm
        have HD : Hid _ := hdec
        clear hdec e1 e2 eB eE HE
        go_wp2_with fail
        refine bodyPost_ret (v := .tuple #[manV ⟨n1, n2, n3, n4, ds⟩ (.slice pu ds.length cu), .int .i64 0]) (by simp [results, Tryd.results13, go_sem, manV, z0, z1, z2, z3, z4]; try rfl) rfl ⟨_, _, 0, rfl, ?_, Or.inl ⟨HD.out, rfl⟩, HB5.out _ _ _ _ _⟩
        exact OwnI.weaken (hO6.keep fun j hj _ => HF5.out _ _ _ _ _ j (by omega)) (by omega)
      | none =>
        have hne := rM_none l hdec
        have HD : Hid _ := hdec
        clear hdec
        cases he : encM (rM l) with
        | none =>
          have eB : encMB (rM l) = [] := by unfold encMB; rw [he]
          have eE : encME (rM l) = 3 := by unfold encME; rw [he]
          rw [eB, eE]
          clear eB eE he hne HE
          go_wp2_with fail
          refine bodyPost_ret (v := .tuple #[manV ⟨0, 0, 0, 0, []⟩ (.slice none 0 0), .int .i64 4]) (by simp [results, Tryd.results13, go_sem, manV, z0, z1, z2, z3, z4]; try rfl) rfl ⟨⟨0, 0, 0, 0, []⟩, _, 4, rfl, OwnI.nil _ _, Or.inr ⟨HD.out, rfl, rfl⟩, HB5.out _ _ _ _ _⟩
        | some b =>
          have hbl : ((S b).toList == (S l).toList) = false := by
            rw [Lib.toList_data, Lib.toList_data, S_list, S_list]
            have : ¬ b = l := fun e => hne (by rw [he, e])
            simpa using this
          have eB : encMB (rM l) = b := by unfold encMB; rw [he]
          have eE : encME (rM l) = 0 := by unfold encME; rw [he]
          rw [eB, eE]
          clear eB eE he hne HE
          go_wp2_with fail
          refine bodyPost_ret (v := .tuple #[manV ⟨0, 0, 0, 0, []⟩ (.slice none 0 0), .int .i64 4]) (by simp [results, Tryd.results13, go_sem, manV, z0, z1, z2, z3, z4]; try rfl) rfl ⟨⟨0, 0, 0, 0, []⟩, _, 4, rfl, OwnI.nil _ _, Or.inr ⟨HD.out, rfl, rfl⟩, HB5.out _ _ _ _ _⟩
    | cons c l' =>
      have hk5 := rfour_rd (w.heap.size + 1) (c :: l') wr (by simp at hlen ⊢; omega) hrd hfz
      have hr4 : (r4 (c :: l')).2 = (c :: l').drop 4 := rfl
      have hstep : rDs (c :: l') = ((r4 (c :: l')).1 : Int) :: rDs ((c :: l').drop 4) := rDs_step (c :: l') (by simp)
      have hdl : ((c :: l').drop 4).length ≤ l'.length := by simp
      rw [hr4] at hk5
      generalize (r4 (c :: l')).1 = d at hk5 hstep
      generalize (c :: l').drop 4 = l6 at hk5 hstep hdl
      rw [hstep] at hds
      have HRD : Hid _ := hrd
      have HDS : Hid (ds ++ [(d : Int)] ++ rDs l6 = rDs l4) := show _ = _ by rw [← hds]; simp
      clear hds hstep hr4 m0 m1 m2 m3 m4 hmk
      go_wp2_with fail
      refine hk5.mono ?_
      rintro e w6 ⟨rfl, hb6⟩
      have h6 := hst.adv hb6
      have hO6 : OwnI (bm + 1) w6 u ds := hO.keep fun j hj hlt => hb6.block j hlt (by show j ≠ w.heap.size + 1; have := hst.lt; omega)
      obtain ⟨m0, m1, m2, m3, m4⟩ := h6.m.cells
      have hmk := h6.m.mark
      have hm6 := h6.m.lt
      have hbl := hO6.block
      have hO6' := hO6
      unfold OwnI at hO6
      clear hk5 hb6 hst hO hrd hfz
      go_wp2_with (at_builtin; refine wpList_append_lies _ rfl (.tmp 33) (.tmp 35) 30 rfl (bm + 1) 3 i0 (.int .i64 0) 1 8 Tryd.underlying30 hi hz0 hz1 hz2 rfl (by decide) u ds.length (ds.map fun n => Value.int .i64 n) rfl (World.ownsRow.alloc (w := w6) hO6 _) ⟨w6.heap.size, 0, none⟩ 1 1 _ rfl rfl (World.news_of_block (heap_alloc_new w6 _)) (by intro y hy; simp at hy; subst hy; rfl) (by decide) (by unfold maxLen; simp at hlen; omega) (by simp at hlen; omega) (by simp; omega) _ rfl ?_)
      intro g cap2 w7 hown1 hgrow hat hlt
      have hg6 : ∀ j, j < w6.heap.size → j ≤ bm → w7.heap[j]? = w6.heap[j]? := fun j hj hjb => (hgrow.block j (by simp; omega) (fun e => by have := hbl j e.symm; omega)).trans (Below.heap_alloc _ _ _ hj)
      have h7 := h6.grown hg6 ((h6.be.alloc h6.be.size _).grown hgrow (by simp; have := h6.be.size; omega) (fun j hj => by have := hbl j hj; have := h6.lt; omega))
      have h7' := h7.put (h7.m.set (.slice (some ⟨g, 0, none⟩) (ds.length + 1) cap2))
      have hO7 : OwnI (bm + 1) (w7.setCell ⟨bm, 4, none⟩ (.slice (some ⟨g, 0, none⟩) (ds.length + 1) cap2)) (.slice (some ⟨g, 0, none⟩) (ds.length + 1) cap2) (ds ++ [(d : Int)]) := by
        refine OwnI.keep (w := w7) ?_ fun j hj _ => Below.heap_setCell _ _ _ _ (show j ≠ bm by omega)
        unfold OwnI
        rw [List.map_append, List.length_append]
        exact hown1
      clear m0 m1 m2 m3 m4 hmk
      obtain ⟨m0, m1, m2, m3, m4⟩ := h7.m.cells
      have hmk := h7.m.mark
      have hs6 := S_size l6
      clear hown1 hgrow hat hlt hg6 h6 h7 hO6 hO6' hbl
      go_wp2_with fail
      go_roundw
      case rel => exact ⟨_, ds ++ [(d : Int)], l6, HDS.out, by simp at hlen ⊢; omega, h7', hO7⟩
      case measure => rw [h7'.rd, HRD.out]; simp only [S_size]; simp; omega
end Go.Proofs.YtddcbeeldjjmeaaDoor.Tw
