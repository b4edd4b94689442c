/- The document's answer: EncodeProof of every proof, DecodeProof of whatever bytes. -/
import Derived.Test.YtddcbeeldjjmeaaGreatDoorRefPf
import Derived.Test.YtddcbeeldjjmeaaGreatDoorPureP2
import Derived.Test.YtddcbeeldjjmeaaGreatDoorBooksU
import Derived.Deep.AppendLies
namespace Go.Proofs.YtddcbeeldjjmeaaGreatDoor.Tw
open Go.RowKit Go.Proofs.YtddcbeeldjjmeaaGreatDoor.Pu
set_option linter.unusedVariables false
set_option linter.unusedSimpArgs false

theorem rencP_any (p : Pf) (v : Value) (w : World) (hv : URow w v p.ups) (hp0 : p.bottom.path.length ≤ 9223372036854775807) (hpl : ∀ u, u ∈ p.ups → u.path.length ≤ 9223372036854775807) :
    Calls Tryz.prog 12 #[prfV p v] w fun e w' => e = .returned (.tuple #[.string (S (encPB p)), .int .i64 (encPE p)]) ∧ Below w.heap.size w w' := by
  obtain ⟨m, us⟩ := p
  unfold prfV encPB encPE encP
  simp only at hv hp0 hpl ⊢
  cases hn : encN m with
  | none => exact rencP_bot m v w hn hp0
  | some b =>
    simp only
    by_cases hl : us.length ≤ 37
    · refine (rencP_run m us v b w hv hn hl hpl).mono ?_
      rintro e w' ⟨⟨h1, h2⟩ | ⟨h1, h2⟩, hb⟩
      · rw [if_pos ((okUs_iff us).2 ⟨hl, h1⟩)]
        exact ⟨h2, hb⟩
      · rw [if_neg fun h => h1 ((okUs_iff us).1 h).2]
        exact ⟨h2, hb⟩
    · rw [if_neg fun h => hl ((okUs_iff us).1 h).1]
      obtain ⟨q, cap, rfl, _⟩ := hv
      exact rencP_many m b q us.length cap w hn (by omega)

theorem rUs_short : ∀ (n : Nat) (l : List UInt8), ∀ u, u ∈ rUs n l → u.path.length ≤ 1000
  | 0, l, u, h => by simp [rUs] at h
  | n + 1, l, u, h => by
    have h' : u ∈ (rU l).1 :: rUs n (rU l).2 := h
    rcases List.mem_cons.1 h' with h | h
    · subst h
      exact rPath_short (l.drop 1)
    · exact rUs_short n _ u h
theorem rU_rest (l : List UInt8) : (rU l).2.length ≤ l.length := by
  unfold rU
  have h1 := r4_rest (rPath (l.drop 1)).2
  have h2 := rPath_rest (l.drop 1)
  have h3 : (l.drop 1).length ≤ l.length := by simp
  simp only
  omega

/-- A proof's block. -/
def PBlk (w : World) (g : Nat) (n : Nd) (v : Value) : Prop := w.heap[g]? = some (.cells #[.int .i64 n.kind, .string (S n.path), .string (S n.value), .int .i64 n.left, .int .i64 n.right, v] 26 (0, 0))
theorem PBlk.cells {w : World} {g : Nat} {n : Nd} {v : Value} (h : PBlk w g n v) : C6 g (.int .i64 n.kind) (.string (S n.path)) (.string (S n.value)) (.int .i64 n.left) (.int .i64 n.right) v w := by
  unfold PBlk at h
  refine ⟨?_, ?_, ?_, ?_, ?_, ?_⟩ <;> simp [World.cell?, h]
theorem PBlk.mark {w : World} {g : Nat} {n : Nd} {v : Value} (h : PBlk w g n v) (o : Nat) : w.frozen? ⟨g, o, none⟩ = false := by
  unfold PBlk at h
  simp [World.frozen?, h]
theorem PBlk.set {w : World} {g : Nat} {n : Nd} {v : Value} (h : PBlk w g n v) (u : Value) : PBlk (w.setCell ⟨g, 5, none⟩ u) g n u := by
  unfold PBlk at h ⊢
  simp [World.setCell, Array.getElem?_modify, h]
theorem PBlk.keep {w w' : World} {g : Nat} {n : Nd} {v : Value} (h : PBlk w g n v) (e : w'.heap[g]? = w.heap[g]?) : PBlk w' g n v := e.trans h
theorem PBlk.lt {w : World} {g : Nat} {n : Nd} {v : Value} (h : PBlk w g n v) : g < w.heap.size := lt_of_cells h
/-- A step's block. -/
def UB (w : World) (g : Nat) (a : Int) (p : List UInt8) (x : Int) : Prop := w.heap[g]? = some (.cells #[.int .i64 a, .string (S p), .int .i64 x] 28 (0, 0))
theorem UB.cells {w : World} {g : Nat} {a : Int} {p : List UInt8} {x : Int} (h : UB w g a p x) : C3 g (.int .i64 a) (.string (S p)) (.int .i64 x) w := by
  unfold UB at h
  refine ⟨?_, ?_, ?_⟩ <;> simp [World.cell?, h]
theorem UB.mark {w : World} {g : Nat} {a : Int} {p : List UInt8} {x : Int} (h : UB w g a p x) (o : Nat) : w.frozen? ⟨g, o, none⟩ = false := by
  unfold UB at h
  simp [World.frozen?, h]
theorem UB.set1 {w : World} {g : Nat} {a : Int} {p : List UInt8} {x : Int} (h : UB w g a p x) (q : List UInt8) : UB (w.setCell ⟨g, 1, none⟩ (.string (S q))) g a q x := by
  unfold UB at h ⊢
  simp [World.setCell, Array.getElem?_modify, h]
theorem UB.set2 {w : World} {g : Nat} {a : Int} {p : List UInt8} {x : Int} (h : UB w g a p x) (y : Int) : UB (w.setCell ⟨g, 2, none⟩ (.int .i64 y)) g a p y := by
  unfold UB at h ⊢
  simp [World.setCell, Array.getElem?_modify, h]
theorem UB.keep {w w' : World} {g : Nat} {a : Int} {p : List UInt8} {x : Int} (h : UB w g a p x) (e : w'.heap[g]? = w.heap[g]?) : UB w' g a p x := e.trans h
theorem UB.lt {w : World} {g : Nat} {a : Int} {p : List UInt8} {x : Int} (h : UB w g a p x) : g < w.heap.size := lt_of_cells h

theorem OwnU.weaken {a b : Nat} {w : World} {v : Value} {l : List Us} (h : OwnU b w v l) (hab : a ≤ b) : OwnU a w v l := ownU_base h hab
theorem OwnU.lt {base : Nat} {w : World} {v : Value} {l : List Us} (h : OwnU base w v l) : ∀ k, v.ownBlock = some k → k < w.heap.size := fun k hk => by
  obtain ⟨_, cur, fz, h2⟩ := ownU_type h hk.symm
  exact lt_of_cells h2
theorem OwnU.keepB {base : Nat} {w w' : World} {v : Value} {l : List Us} (h : OwnU base w v l) (k : ∀ j, v.ownBlock = some j → w'.heap[j]? = w.heap[j]?) : OwnU base w' v l := ownU_keep h fun j hj => k j hj.symm

/-- The reader at its block, the answer's block, the proof that is read. -/
structure StP (w W : World) (bm : Nat) (l : List UInt8) (n : Nd) (v : Value) : Prop where
  rd : W.cell? ⟨w.heap.size + 1, 0, none⟩ = some (.string (S l))
  fz : W.frozen? ⟨w.heap.size + 1, 0, none⟩ = false
  z : PBlk W w.heap.size zeroN (.slice none 0 0)
  m : PBlk W bm n v
  be : Below w.heap.size w W
  lt : w.heap.size + 1 < bm
theorem StP.adv {w W W' : World} {bm : Nat} {l l' : List UInt8} {n : Nd} {v : Value} (h : StP w W bm l n v) (k : Adv ⟨w.heap.size + 1, 0, none⟩ l' W W') : StP w W' bm l' n v :=
  have hm := h.m.lt
  have hl := h.lt
  ⟨k.rest, k.mark, h.z.keep (k.block _ h.z.lt (by show w.heap.size ≠ w.heap.size + 1; omega)), h.m.keep (k.block _ hm (by show bm ≠ w.heap.size + 1; omega)), h.be.trans (k.below (by show w.heap.size ≤ w.heap.size + 1; omega) (by have := h.z.lt; omega)), h.lt⟩
theorem StP.same {w W W' : World} {bm : Nat} {l : List UInt8} {n : Nd} {v : Value} (h : StP w W bm l n v) (k : ∀ j, j < W.heap.size → j ≤ bm → W'.heap[j]? = W.heap[j]?) (kb : Below w.heap.size w W') : StP w W' bm l n v := by
  have hl := h.lt
  have hm := h.m.lt
  have e := k (w.heap.size + 1) (by omega) (by omega)
  refine ⟨?_, ?_, h.z.keep (k _ (by omega) (by omega)), h.m.keep (k _ hm (Nat.le_refl _)), kb, hl⟩
  · rw [World.cell?_of_block (w := W) e]; exact h.rd
  · rw [World.frozen?_of_block (w := W) e]; exact h.fz
theorem StP.put {w W : World} {bm : Nat} {l : List UInt8} {n : Nd} {v : Value} (h : StP w W bm l n v) (u : Value) : StP w (W.setCell ⟨bm, 5, none⟩ u) bm l n u := by
  have hl := h.lt
  have e : ∀ j, j ≠ bm → (W.setCell ⟨bm, 5, none⟩ u).heap[j]? = W.heap[j]? := fun j hj => Below.heap_setCell _ _ _ _ hj
  refine ⟨?_, ?_, h.z.keep (e _ (by omega)), h.m.set u, below_set h.be _ _ _ (by omega), h.lt⟩
  · rw [World.cell?_of_block (w := W) (e _ (by show w.heap.size + 1 ≠ bm; omega))]; exact h.rd
  · rw [World.frozen?_setCell]; exact h.fz
theorem StP.setO {w W : World} {bm : Nat} {l : List UInt8} {n : Nd} {v : Value} (h : StP w W bm l n v) (g o : Nat) (u : Value) (hg : bm < g) : StP w (W.setCell ⟨g, o, none⟩ u) bm l n v :=
  have hl := h.lt
  h.same (fun j _ hj => Below.heap_setCell _ _ _ _ (show j ≠ g by omega)) (below_set h.be _ _ _ (by omega))
set_option maxRecDepth 20000 in
set_option maxHeartbeats 4000000 in
theorem rdecP_any (l : List UInt8) (w : World) (hl : l.length ≤ 1048576) :
    Calls Tryz.prog 15 #[.string (S l)] w fun e w' => ∃ (p : Pf) (u : Value) (x : Int), e = .returned (.tuple #[prfV p u, .int .i64 x]) ∧ OwnU w.heap.size w' u p.ups ∧ ((decP l = some p ∧ x = 0) ∨ (decP l = none ∧ p = ⟨zeroN, []⟩ ∧ x = 4)) ∧ Below w.heap.size w w' := by
  have hk1 := fun rb w hc hf => rnumber_rd rb l w (by omega) hc hf
  obtain ⟨n1, hn1⟩ : ∃ n, n = (rNum l).1 := ⟨_, rfl⟩
  obtain ⟨l1, hl1⟩ : ∃ l', l' = (rNum l).2 := ⟨_, rfl⟩
  obtain ⟨lq, hlq⟩ : ∃ l', l' = l1.take n1 := ⟨_, rfl⟩
  obtain ⟨l2, hl2⟩ : ∃ l', l' = l1.drop n1 := ⟨_, rfl⟩
  obtain ⟨nd, hnd⟩ : ∃ n, n = (rNode lq).1 := ⟨_, rfl⟩
  obtain ⟨n3, hn3⟩ : ∃ n, n = (rNum l2).1 := ⟨_, rfl⟩
  obtain ⟨l3, hl3⟩ : ∃ l', l' = (rNum l2).2 := ⟨_, rfl⟩
  have hm : rP l = ⟨nd, rUs (min n3 38) l3⟩ := by unfold rP; simp only [hn1, hl1, hlq, hl2, hnd, hn3, hl3]
  have z1 : l1.length ≤ 1048576 := by rw [hl1]; have := rNum_rest l; omega
  have z2 : l2.length ≤ 1048576 := by rw [hl2]; simp; omega
  have zq : lq.length ≤ 1048576 := by rw [hlq]; simp; omega
  have z3 : l3.length ≤ 1048576 := by rw [hl3]; have := rNum_rest l2; omega
  have hn3l : n3 < 34359738368 := by rw [hn3]; exact rNum_lt l2
  have hn1l : n1 < 34359738368 := by rw [hn1]; exact rNum_lt l
  have hnp : nd.path.length ≤ 1000 := by rw [hnd]; exact rNode_short lq
  have hk2 := fun rb w hc hf => rtake_any rb l1 n1 w (by omega) hc hf
  have hk3 := fun rb w hc hf => rnode_rd rb lq w (by omega) hc hf
  have hk4 := fun rb w hc hf => rnumber_rd rb l2 w (by omega) hc hf
  rw [← hn1, ← hl1] at hk1
  rw [← hlq, ← hl2] at hk2
  rw [← hnd] at hk3
  generalize (rNode lq).2 = lr at hk3
  rw [← hn3, ← hl3] at hk4
  have HM : Hid _ := hm
  unfold nodeV at hk3
  clear hm hn1 hl1 hlq hl2 hnd hn3 hl3
  go_enter Tryz.func15, Tryz.ntmps15
  go_wp2_with fail
  refine (hk1 _ _ (by simp) (by simp)).mono ?_
  rintro e w1 ⟨rfl, hb1⟩
  have hs1 : w.heap.size + 2 ≤ w1.heap.size := by have := hb1.size; simp at this; omega
  have hz1 : PBlk w1 w.heap.size zeroN (.slice none 0 0) := (hb1.block w.heap.size (by simp; omega) (by show w.heap.size ≠ w.heap.size + 1; omega)).trans ((Below.heap_alloc _ _ _ (by simp)).trans (heap_alloc_new w _))
  have hB1 : Below w.heap.size w w1 := (((Below.refl _ w).alloc (Nat.le_refl _) _).alloc (by simp) _).trans (hb1.below (by show w.heap.size ≤ w.heap.size + 1; omega) (by simp; omega))
  have hc1 := hb1.rest
  have hf1 := hb1.mark
  clear hb1 hk1
  go_wp2_with fail
  refine (hk2 _ _ hc1 hf1).mono ?_
  rintro e w2 ⟨rfl, hb2⟩
  have hs2 : w.heap.size + 2 ≤ w2.heap.size := by have := hb2.size; omega
  have hz2 := hz1.keep (hb2.block _ (by omega) (by show w.heap.size ≠ w.heap.size + 1; omega))
  have hB2 : Below w.heap.size w w2 := hB1.trans (hb2.below (by show w.heap.size ≤ w.heap.size + 1; omega) (by omega))
  have hc2 := hb2.rest
  have hf2 := hb2.mark
  clear hb2 hk2 hz1 hB1 hc1 hf1
  go_wp2_with fail
  have hqA := (Below.refl w2.heap.size w2).alloc (Nat.le_refl _) (.cells #[.string (S lq)] 106)
  refine (hk3 _ _ (by simp) (by simp)).mono ?_
  rintro e w3 ⟨rfl, hb3⟩
  have hs3 : w.heap.size + 2 ≤ w3.heap.size := by have := hb3.size; simp at this; omega
  have hk3b : ∀ j, j < w2.heap.size → w3.heap[j]? = w2.heap[j]? := fun j hj => (hb3.block j (by simp; omega) (by show j ≠ w2.heap.size; omega)).trans (hqA.block j hj)
  have hz3 := hz2.keep (hk3b _ (by omega))
  have hc3 : w3.cell? ⟨w.heap.size + 1, 0, none⟩ = some (.string (S l2)) := (World.cell?_of_block (w := w2) (hk3b _ (by show w.heap.size + 1 < _; omega))).trans hc2
  have hf3 : w3.frozen? ⟨w.heap.size + 1, 0, none⟩ = false := (World.frozen?_of_block (w := w2) (hk3b _ (by show w.heap.size + 1 < _; omega))).trans hf2
  have hB3 : Below w.heap.size w w3 := (hB2.trans (hqA.mono (by omega))).trans (hb3.below (by show w.heap.size ≤ w2.heap.size; omega) (by simp; omega))
  clear hb3 hk3 hz2 hB2 hc2 hf2 hqA hk3b
  go_wp2_with fail
  have hw4 : Below w3.heap.size w3 (w3.alloc (.cells #[.int .i64 nd.kind, .string (S nd.path), .string (S nd.value), .int .i64 nd.left, .int .i64 nd.right, .slice none 0 0] 26)) := (Below.refl _ w3).alloc (Nat.le_refl _) _
  have h4 : StP w (w3.alloc (.cells #[.int .i64 nd.kind, .string (S nd.path), .string (S nd.value), .int .i64 nd.left, .int .i64 nd.right, .slice none 0 0] 26)) w3.heap.size l2 nd (.slice none 0 0) :=
    ⟨(hw4.cell (by show w.heap.size + 1 < w3.heap.size; omega)).trans hc3, (hw4.frozen (by show w.heap.size + 1 < w3.heap.size; omega)).trans hf3, hz3.keep (hw4.block _ (by omega)), heap_alloc_new w3 _, hB3.alloc (by omega) _, by omega⟩
  clear hw4 hc3 hf3 hz3 hB3
  generalize hbm : w3.heap.size = bm at *
  generalize w3.alloc (.cells #[.int .i64 nd.kind, .string (S nd.path), .string (S nd.value), .int .i64 nd.left, .int .i64 nd.right, .slice none 0 0] 26) = W4 at *
  refine (hk4 _ _ h4.rd h4.fz).mono ?_
  rintro e w5 ⟨rfl, hb5⟩
  have h5 := h4.adv hb5
  clear hb5 h4 hk4
  go_wp2_with fail
  obtain ⟨i0, hi, hz0, hz1, hz2⟩ := info_parts uinfo
  go_loopw [9] (fun i wr => ∃ (j : Nat) (u : Value), j ≤ n3 ∧ j ≤ 38 ∧ i = .int .i64 j ∧ StP w wr bm (rUrest j l3) nd u ∧ OwnU (bm + 1) wr u (rUs j l3)) (fun i _ => (38 - intOf i).toNat)
  case atStart => exact ⟨0, .slice none 0 0, by omega, by omega, rfl, h5, OwnU.nil _ _⟩
  case round =>
    obtain ⟨j, u, hj, hj8, rfl, hst, hO⟩ := hrel
    obtain ⟨m0, m1, m2, m3, m4, m5⟩ := hst.m.cells
    have hmk := hst.m.mark
    have hrd := hst.rd
    have hfz := hst.fz
    by_cases hjn : j < n3 ∧ j ≤ 37
    · obtain ⟨hjn, hj7⟩ := hjn
      have zr : (rUrest j l3).length ≤ 1048576 := by
        have key : ∀ (n : Nat) (l : List UInt8), (rUrest n l).length ≤ l.length := by
          intro n
          induction n with
          | zero => intro l; simp [rUrest]
          | succ n ih => intro l; have h1 := ih (rU l).2; have h2 := rU_rest l; show (rUrest n (rU l).2).length ≤ _; omega
        have := key j l3; omega
      have hsn := rUs_snoc j l3
      have hrs := rUrest_succ j l3
      have hul := rUs_len j l3
      obtain ⟨lj, hlj⟩ : ∃ l', l' = rUrest j l3 := ⟨_, rfl⟩
      rw [← hlj] at hst hrd zr hsn hrs
      have hka := rone_any (w.heap.size + 1) lj wr (by omega) hrd hfz
      have hkb := fun W hc hf => rpath_rd (w.heap.size + 1) (lj.drop 1) W (by simp; omega) hc hf
      have hkc := fun W hc hf => rfour_rd (w.heap.size + 1) (rPath (lj.drop 1)).2 W (by have := rPath_rest (lj.drop 1); rw [List.length_drop] at this; omega) hc hf
      unfold rU at hsn hrs
      simp only at hsn hrs
      generalize (lj.getD 0 0).toNat = sd at hka hsn
      generalize (rPath (lj.drop 1)).1 = pt at hkb hsn
      generalize (r4 (rPath (lj.drop 1)).2).1 = ot at hkc hsn
      generalize (r4 (rPath (lj.drop 1)).2).2 = lf at hkc hrs
      generalize (rPath (lj.drop 1)).2 = le at hkb hkc
      generalize lj.drop 1 = ld at hka hkb
      generalize rUs j l3 = us at hO hsn hul
      have HSN : Hid _ := hsn
      have HRS : Hid _ := hrs
      clear hlj hsn hrs
      go_wp2_with fail
      refine hka.mono ?_
      rintro e w6 ⟨rfl, hb6⟩
      have h6 := hst.adv hb6
      have hO6 : OwnU (bm + 1) w6 u us := hO.keepB fun j hj => hb6.block j (hO.lt j hj) (by show j ≠ w.heap.size + 1; have := hO.block j hj; have := hst.lt; omega)
      have hm6 := h6.m.lt
      have hl6 := h6.lt
      clear hb6 hka hst hO hrd hfz m0 m1 m2 m3 m4 m5 hmk
      have hn7 := (Below.refl w6.heap.size w6).alloc (Nat.le_refl _) (.cells #[.int .i64 sd, .string ⟨#[]⟩, .int .i64 0] 28)
      have hU7 : UB (w6.alloc (.cells #[.int .i64 sd, .string ⟨#[]⟩, .int .i64 0] 28)) w6.heap.size sd [] 0 := heap_alloc_new w6 _
      have h7 := h6.same (fun j hj _ => hn7.block j hj) (h6.be.alloc h6.be.size _)
      have hO7 : OwnU (bm + 1) (w6.alloc (.cells #[.int .i64 sd, .string ⟨#[]⟩, .int .i64 0] 28)) u us := hO6.keepB fun j hj => hn7.block j (hO6.lt j hj)
      have hg7 : ∀ j, u.ownBlock = some j → j < w6.heap.size := hO6.lt
      clear hn7 h6 hO6
      go_wp2_with fail
      generalize hbu : w6.heap.size = bu at *
      generalize hw7 : w6.alloc (.cells #[.int .i64 sd, .string ⟨#[]⟩, .int .i64 0] 28) = w7 at *
      refine (hkb _ h7.rd h7.fz).mono ?_
      rintro e w8 ⟨rfl, hb8⟩
      have h8 := h7.adv hb8
      have hU8 := hU7.keep (hb8.block _ hU7.lt (by show bu ≠ w.heap.size + 1; omega))
      have hO8 : OwnU (bm + 1) w8 u us := hO7.keepB fun j hj => hb8.block j (hO7.lt j hj) (by show j ≠ w.heap.size + 1; have := hO7.block j hj; omega)
      have h8' := h8.setO bu 1 (.string (S pt)) (by omega)
      have hU8' := hU8.set1 pt
      have hO8' : OwnU (bm + 1) (w8.setCell ⟨bu, 1, none⟩ (.string (S pt))) u us := hO8.keepB fun j hj => Below.heap_setCell _ _ _ _ (by show j ≠ bu; have := hg7 j hj; omega)
      obtain ⟨u0, u1, u2⟩ := hU8.cells
      have hmu := hU8.mark
      clear hb8 h7 hU7 hO7 h8 hU8 hO8 hkb hw7
      go_wp2_with fail
      clear u0 u1 u2 hmu
      generalize w8.setCell ⟨bu, 1, none⟩ (.string (S pt)) = W8 at *
      refine (hkc _ h8'.rd h8'.fz).mono ?_
      rintro e w9 ⟨rfl, hb9⟩
      have h9 := h8'.adv hb9
      have hU9 := hU8'.keep (hb9.block _ hU8'.lt (by show bu ≠ w.heap.size + 1; omega))
      have hO9 : OwnU (bm + 1) w9 u us := hO8'.keepB fun j hj => hb9.block j (hO8'.lt j hj) (by show j ≠ w.heap.size + 1; have := hO8'.block j hj; omega)
      have h9' := h9.setO bu 2 (.int .i64 ot) (by omega)
      have hU9' := hU9.set2 ot
      have hO9' : OwnU (bm + 1) (w9.setCell ⟨bu, 2, none⟩ (.int .i64 ot)) u us := hO9.keepB fun j hj => Below.heap_setCell _ _ _ _ (by show j ≠ bu; have := hg7 j hj; omega)
      obtain ⟨u0, u1, u2⟩ := hU9.cells
      have hmu := hU9.mark
      obtain ⟨x0, x1, x2⟩ := hU9'.cells
      obtain ⟨m0, m1, m2, m3, m4, m5⟩ := h9'.m.cells
      have hz9 := h9'.m.lt
      have hmb := h9'.m.mark
      have hbl := hO9'.block
      have hO9r := hO9'
      unfold OwnU at hO9r
      have hb99 := h9'.be
      clear hb9 h8' hU8' hO8' h9 hU9 hO9 hkc hU9'
      generalize hW9 : w9.setCell ⟨bu, 2, none⟩ (.int .i64 ot) = W9 at *
      go_wp2_with (first | rw [hW9] | (at_builtin; refine wpList_append_lies _ rfl (.tmp 47) (.tmp 49) 24 rfl (bm + 1) 28 i0 (.agg #[.int .i64 0, .string ⟨#[]⟩, .int .i64 0]) 3 32 Tryz.underlying24 hi hz0 hz1 hz2 rfl (by decide) u us.length (upCs us) rfl (World.ownsRow.alloc (w := W9) hO9r _) ⟨W9.heap.size, 0, none⟩ 1 1 _ rfl rfl (World.news_of_block (heap_alloc_new W9 _)) (by intro y hy; simp at hy; rcases hy with rfl | rfl | rfl <;> rfl) (by decide) (by unfold maxLen; omega) (by omega) (by simp; omega) _ rfl ?_))
      intro g cap2 w10 hown1 hgrow hat hlt
      have hg10 : ∀ j, j < W9.heap.size → j ≤ bm → w10.heap[j]? = W9.heap[j]? := fun j hj hjb => (hgrow.block j (by simp; omega) (fun e => by have := hbl j e.symm; omega)).trans (Below.heap_alloc _ _ _ hj)
      have h10 := h9'.same hg10 ((hb99.alloc hb99.size _).grown hgrow (by simp; have := hb99.size; omega) (fun j hj => by have := hbl j hj; omega))
      have h10' := h10.put (.slice (some ⟨g, 0, none⟩) (j + 1) cap2)
      have hO10 : OwnU (bm + 1) (w10.setCell ⟨bm, 5, none⟩ (.slice (some ⟨g, 0, none⟩) (j + 1) cap2)) (.slice (some ⟨g, 0, none⟩) (j + 1) cap2) (us ++ [⟨sd, pt, ot⟩]) := by
        have h : OwnU (bm + 1) w10 (.slice (some ⟨g, 0, none⟩) (j + 1) cap2) (us ++ [⟨sd, pt, ot⟩]) := by
          unfold OwnU
          rw [upCs_snoc, List.length_append, hul]
          exact hown1
        exact h.keepB fun j hj => Below.heap_setCell _ _ _ _ (by show j ≠ bm; have := h.block j hj; omega)
      clear m0 m1 m2 m3 m4 m5 hmb u0 u1 u2 hmu x0 x1 x2
      obtain ⟨m0, m1, m2, m3, m4, m5⟩ := h10.m.cells
      have hmk := h10.m.mark
      clear hown1 hgrow hat hlt hg10 h10 h9' hO9' hO9r hbl hb99 hW9
      go_wp2_with fail
      go_roundw
      case rel =>
        refine ⟨j + 1, .slice (some ⟨g, 0, none⟩) (j + 1) cap2, by omega, by omega, by go_num, ?_, ?_⟩
        · rw [HRS.out]; exact h10'
        · rw [HSN.out]; exact hO10
      case measure => simp [intOf]; omega
    · have hjm : j = min n3 38 := by omega
      have hme : rP l = ⟨nd, rUs j l3⟩ := by rw [HM.out, hjm]
      have hsh := rUs_short j l3
      have he := rencP_any ⟨nd, rUs j l3⟩ u wr hO.urow (by show nd.path.length ≤ _; omega) (fun u hu => by have := hsh u hu; omega)
      obtain ⟨pu, cu, rfl, _⟩ := hO.urow
      generalize rUs j l3 = us at *
      rw [← hme] at he
      have HE : Hid _ := hme
      clear hme hsh HM
      unfold prfV at he
      rw [HE.out] at he
      simp only at he
      rw [← HE.out] at he
      have hdn : (decide ((j : Int) < (n3 : Int)) && decide ((j : Int) ≤ 37)) = false := by
        by_cases h : j < n3
        · have : ¬ j ≤ 37 := fun h2 => hjn ⟨h, h2⟩
          simp; omega
        · simp; omega
      go_wp2_with fail
      all_goals
        refine he.mono ?_
        rintro e w6 ⟨rfl, hb6⟩
        have h6 := hst.same (fun j hj _ => hb6.block j hj) (hst.be.trans (hb6.mono hst.be.size))
        have hO6 : OwnU (bm + 1) w6 (.slice pu us.length cu) us := hO.keepB fun j hj => hb6.block j (hO.lt j hj)
        clear m0 m1 m2 m3 m4 m5 hmk
        obtain ⟨m0, m1, m2, m3, m4, m5⟩ := h6.m.cells
        obtain ⟨z0, z1, z2, z3, z4, z5⟩ := h6.z.cells
        have hmk := h6.z.mark
        have hlt6 := h6.lt
        have hb66 := h6.be
        unfold zeroN at z0 z1 z2 z3 z4
        have hf5 : ∀ (a b c d e f : Value) (j : Nat), j ≠ w.heap.size → ((((((w6.setCell ⟨w.heap.size, 0, none⟩ a).setCell ⟨w.heap.size, 1, none⟩ b).setCell ⟨w.heap.size, 2, none⟩ c).setCell ⟨w.heap.size, 3, none⟩ d).setCell ⟨w.heap.size, 4, none⟩ e).setCell ⟨w.heap.size, 5, none⟩ f).heap[j]? = w6.heap[j]? := fun a b c d e f j hj => by
          rw [Below.heap_setCell _ _ _ _ (show j ≠ w.heap.size from hj), Below.heap_setCell _ _ _ _ (show j ≠ w.heap.size from hj), Below.heap_setCell _ _ _ _ (show j ≠ w.heap.size from hj), Below.heap_setCell _ _ _ _ (show j ≠ w.heap.size from hj), Below.heap_setCell _ _ _ _ (show j ≠ w.heap.size from hj), Below.heap_setCell _ _ _ _ (show j ≠ w.heap.size from hj)]
        have hb5 : ∀ (a b c d e f : Value), Below w.heap.size w ((((((w6.setCell ⟨w.heap.size, 0, none⟩ a).setCell ⟨w.heap.size, 1, none⟩ b).setCell ⟨w.heap.size, 2, none⟩ c).setCell ⟨w.heap.size, 3, none⟩ d).setCell ⟨w.heap.size, 4, none⟩ e).setCell ⟨w.heap.size, 5, none⟩ f) := fun a b c d e f =>
          below_set (below_set (below_set (below_set (below_set (below_set hb66 _ _ _ (Nat.le_refl _)) _ _ _ (Nat.le_refl _)) _ _ _ (Nat.le_refl _)) _ _ _ (Nat.le_refl _)) _ _ _ (Nat.le_refl _)) _ _ _ (Nat.le_refl _)
        have HF5 : Hid _ := hf5
        have HB5 : Hid _ := hb5
        clear he hb6 hst hO h6 hf5 hb5 hb66 hrd hfz
        cases hdec : decP l with
        | some p =>
          obtain ⟨e1, e2⟩ := rP_dec l p hdec
          have eB : encPB (rP l) = l := by unfold encPB; rw [e2]
          have eE : encPE (rP l) = 0 := by unfold encPE; rw [e2]
          have hmm : p = ⟨nd, us⟩ := by rw [← e1, HE.out]
          rw [eB, eE]
          subst hmm
          have HD : Hid _ := hdec
          clear hdec e1 e2 eB eE HE
          go_wp2_with fail
          refine bodyPost_ret (v := .tuple #[prfV ⟨nd, us⟩ (.slice pu us.length cu), .int .i64 0]) (by simp [results, Tryz.results15, go_sem, prfV, z0, z1, z2, z3, z4, z5]; try rfl) rfl ⟨_, _, 0, rfl, ?_, Or.inl ⟨HD.out, rfl⟩, HB5.out _ _ _ _ _ _⟩
          exact OwnU.weaken (hO6.keepB fun j hj => HF5.out _ _ _ _ _ _ j (by have := hO6.block j hj; omega)) (by omega)
        | none =>
          have hne := rP_none l hdec
          have HD : Hid _ := hdec
          clear hdec
          cases he : encP (rP l) with
          | none =>
            have eB : encPB (rP l) = [] := by unfold encPB; rw [he]
            have eE : encPE (rP l) = 3 := by unfold encPE; rw [he]
            rw [eB, eE]
            clear eB eE he hne HE
            go_wp2_with fail
            refine bodyPost_ret (v := .tuple #[prfV ⟨zeroN, []⟩ (.slice none 0 0), .int .i64 4]) (by simp [results, Tryz.results15, go_sem, prfV, zeroN, z0, z1, z2, z3, z4, z5]; try rfl) rfl ⟨⟨zeroN, []⟩, _, 4, rfl, OwnU.nil _ _, Or.inr ⟨HD.out, rfl, rfl⟩, HB5.out _ _ _ _ _ _⟩
          | some b =>
            have hbl : ((S b).toList == (S l).toList) = false := by
              rw [Lib.toList_data, Lib.toList_data, S_list, S_list]
              have : ¬ b = l := fun e => hne (by rw [he, e])
              simpa using this
            have eB : encPB (rP l) = b := by unfold encPB; rw [he]
            have eE : encPE (rP l) = 0 := by unfold encPE; rw [he]
            rw [eB, eE]
            clear eB eE he hne HE
            go_wp2_with fail
            refine bodyPost_ret (v := .tuple #[prfV ⟨zeroN, []⟩ (.slice none 0 0), .int .i64 4]) (by simp [results, Tryz.results15, go_sem, prfV, zeroN, z0, z1, z2, z3, z4, z5]; try rfl) rfl ⟨⟨zeroN, []⟩, _, 4, rfl, OwnU.nil _ _, Or.inr ⟨HD.out, rfl, rfl⟩, HB5.out _ _ _ _ _ _⟩
end Go.Proofs.YtddcbeeldjjmeaaGreatDoor.Tw
