/- The law Manifests. -/
import Derived.Test.YtddcbeeldjjmeaaDoorBooks3
import Derived.Test.YtddcbeeldjjmeaaDoorManBoth
import Derived.Test.YtddcbeeldjjmeaaDoorSameI
import Derived.Test.YtddcbeeldjjmeaaDoorCopyI
import Derived.Laws.CopyOwn
import Derived.Deep.RegionHeldLaw
import Derived.Deep.DrawnRows
namespace Go.Proofs.YtddcbeeldjjmeaaDoor.Tw
open Go.RowKit Go.Proofs.YtddcbeeldjjmeaaDoor.Pu
set_option linter.unusedVariables false
set_option linter.unusedSimpArgs false

theorem make_ints9 (n : Nat) (hn : n ≤ 1048592) (M : Array Value) (hM : M = madeCells (Value.int .i64 0).cells n) : ∀ W : World, (Instr.makeSlice 30 (.int .i64 (n : Int)) (.int .i64 (n : Int))).run Tryd.prog W = .ok (.slice (some ⟨W.heap.size, 0, none⟩) n n) (W.alloc (.cells M 3)) := fun W => by
  obtain ⟨i0, hi, hz0, hz1, hz2⟩ := info_parts i64info
  have h := run_make (P := Tryd.prog) W 30 3 i0 (.int .i64 0) Tryd.underlying30 hi hz0 .i64 .i64 (n : Int) (n : Int) (by omega) (by omega) (by rw [hz2]; omega) (by omega)
  rw [hz1, Int.toNat_natCast, Nat.mul_one, ← hM] at h
  exact h

theorem room_set (ds : List Int) (m : Int) (j : Nat) (hj : j < 8) : (ds ++ (List.replicate j m ++ List.replicate (8 - j) 0)).set (ds.length + j) m = ds ++ (List.replicate (j + 1) m ++ List.replicate (8 - (j + 1)) 0) := by
  have e1 : 8 - j = (8 - (j + 1)) + 1 := by omega
  rw [List.set_append_right _ _ (by omega), List.set_append_right _ _ (by simp), e1, List.replicate_succ (n := 8 - (j + 1)), List.length_replicate, Nat.add_sub_cancel_left, Nat.sub_self, List.set_cons_zero, List.replicate_succ' (n := j), List.append_assoc]
  rfl

theorem NRow.pre {w : World} {g : Nat} {l r : List Int} (h : NRow w g (l ++ r)) (cap : Nat) : IRow w (.slice (some ⟨g, 0, none⟩) l.length cap) l := by
  obtain ⟨p, c, e, hc⟩ := h.irow cap
  refine ⟨_, _, rfl, fun i hi => ?_⟩
  obtain ⟨a, ha, hx⟩ := hc i (by rw [List.length_append]; omega)
  rw [List.getElem_append_left hi] at hx
  simp only [Value.slice.injEq] at e
  exact ⟨a, e.1.trans ha, hx⟩
theorem size_drewN (w : World) (n : Nat) : (w.drewN n).heap.size = w.heap.size := rfl
/-- What stays while the law runs: the manifest's box, the row of its own. -/
structure Kp (w W : World) (k rt s t : Int) (v : Value) (L : List Int) : Prop where
  m : MBlk W w.heap.size k rt s t v
  r : NRow W (w.heap.size + 1) L
  be : Below w.heap.size w W
theorem Kp.lt {w W : World} {k rt s t : Int} {v : Value} {L : List Int} (h : Kp w W k rt s t v L) : w.heap.size + 1 < W.heap.size := h.r.lt
theorem Kp.to {w W W' : World} {k rt s t : Int} {v : Value} {L : List Int} (h : Kp w W k rt s t v L) (b : Below W.heap.size W W') : Kp w W' k rt s t v L :=
  ⟨h.m.keep (b.block _ h.m.lt), h.r.keep (b.block _ h.r.lt), h.be.trans (b.mono h.be.size)⟩
theorem Kp.alloc {w W : World} {k rt s t : Int} {v : Value} {L : List Int} (h : Kp w W k rt s t v L) (o : Obj) : Kp w (W.alloc o) k rt s t v L := h.to ((Below.refl _ W).alloc (Nat.le_refl _) o)
theorem Kp.drew {w W : World} {k rt s t : Int} {v : Value} {L : List Int} (h : Kp w W k rt s t v L) : Kp w W.drew k rt s t v L := ⟨h.m, h.r, h.be.drew⟩
theorem Kp.drewN {w W : World} {k rt s t : Int} {v : Value} {L : List Int} (h : Kp w W k rt s t v L) (n : Nat) : Kp w (W.drewN n) k rt s t v L := ⟨h.m, h.r, below_drewN h.be n⟩

theorem dM_len (l : List UInt8) (hl : l.length ≤ 1048576) : (dM l).digests.length ≤ 290000 := by
  unfold dM
  cases h : decM l with
  | none => simp [zM]
  | some m =>
    have he := decM_sound m l h
    unfold encM at he
    by_cases hk : okM m = true
    · rw [if_pos hk] at he
      simp only [Option.some.injEq] at he
      have := congrArg List.length he
      simp only [List.length_cons, List.length_append, eDs_len] at this
      simp only [Option.getD_some]
      omega
    · rw [if_neg hk] at he; cases he
/-- A row that came out. -/
def XR (w : World) (p : Option Addr) (dd : List Int) : Prop := (∃ g, p = some ⟨g, 0, none⟩ ∧ NRow w g dd) ∨ (p = none ∧ dd = [])
theorem XR.irow {w : World} {p : Option Addr} {dd : List Int} (h : XR w p dd) : IRow w (.slice p dd.length dd.length) dd := by
  rcases h with ⟨g, rfl, h⟩ | ⟨rfl, rfl⟩
  · exact h.irow _
  · exact ⟨none, 0, rfl, fun i hi => absurd hi (Nat.not_lt_zero i)⟩
theorem XR.to {w w' : World} {p : Option Addr} {dd : List Int} (h : XR w p dd) (b : Below w.heap.size w w') : XR w' p dd := by
  rcases h with ⟨g, rfl, h⟩ | ⟨rfl, rfl⟩
  · exact Or.inl ⟨g, rfl, h.keep (b.block _ h.lt)⟩
  · exact Or.inr ⟨rfl, rfl⟩
theorem MBlk.to {w w' : World} {g : Nat} {a b c d : Int} {v : Value} (h : MBlk w g a b c d v) (k : Below w.heap.size w w') : MBlk w' g a b c d v := h.keep (k.block _ h.lt)
theorem OwnI.to {base : Nat} {w w' : World} {v : Value} {l : List Int} (h : OwnI base w v l) (k : Below w.heap.size w w') : OwnI base w' v l := h.keep fun j _ hlt => k.block j hlt
theorem Kp.touch {bk gx : Nat} {w W W' : World} {k rt s t : Int} {v : Value} {L : List Int} (h : Kp w W k rt s t v L) (b : Touch bk gx W W') (h1 : w.heap.size + 2 ≤ bk) (h2 : w.heap.size + 2 ≤ gx) : Kp w W' k rt s t v L :=
  have hl := h.lt
  ⟨h.m.keep (b.block _ h.m.lt (by omega) (by omega)), h.r.keep (b.block _ h.r.lt (by omega) (by omega)), ⟨b.os.trans h.be.os, b.tape.trans h.be.tape, b.output.trans h.be.output, Nat.le_trans h.be.size b.size, fun j hj => (b.block j (by omega) (by omega) (by omega)).trans (h.be.block j hj)⟩⟩

set_option maxRecDepth 20000 in
set_option maxHeartbeats 4000000 in
theorem manLaw_any (A : Nat → Addr) (B : Nat) (m : Mf) (v : Value) (l : List UInt8) (w : World) (hS : Sents A B w) (hT : Tab w) (hTB : 15 < B) (hv : IRow w v m.digests) (hn : m.digests.length ≤ 1048576) (hl : l.length ≤ 1048576) :
    Calls Tryd.prog 4 #[manV m v, .string (S l)] w fun e w' => e = .returned (.bool true) ∧ Below w.heap.size w w' := by
  obtain ⟨k, rt, s, t, ds⟩ := m
  simp only at hv hn
  have hcp := fun ty W g p cap h1 h2 => copyI ty W g 8 ds p cap h1 h2
  obtain ⟨p, cap, rfl, hc⟩ := hv
  have h5 := C5.new w (.int .i64 k) (.int .i64 rt) (.int .i64 s) (.int .i64 t) (.slice p ds.length cap) 32
  obtain ⟨c0, c1, c2, c3, c4⟩ := h5
  obtain ⟨M, hM⟩ : ∃ M, M = madeCells (Value.int .i64 0).cells (ds.length + 8) := ⟨_, rfl⟩
  have hmk := make_ints9 (ds.length + 8) (by omega) M hM
  rw [show (((ds.length + 8 : Nat) : Int)) = (ds.length : Int) + 8 from rfl] at hmk
  have hnew : ∀ W : World, NRow (W.alloc (.cells M 3)) W.heap.size (List.replicate (ds.length + 8) 0) := fun W => by rw [hM]; exact NRow.new W _
  have hIv : ∀ o o', IRow ((w.alloc o).alloc o') (.slice p ds.length cap) ds := fun o o' => IRow.to (w := w) ⟨p, cap, rfl, hc⟩ (((Below.refl _ w).alloc (Nat.le_refl _) o).alloc (by simp) o')
  have hcq := fun ty o => hcp ty ((w.alloc o).alloc (.cells M 3)) (w.heap.size + 1) p cap (by have h := hnew (w.alloc o); rwa [World.size_alloc] at h) (hIv _ _)
  obtain ⟨Z, hZ⟩ : ∃ Z, Z = List.replicate 8 (0 : Int) := ⟨_, rfl⟩
  rw [← hZ] at hcq
  have hZ8 : Z.length = 8 := by rw [hZ]; rfl
  have hZh : ∃ Y, Y = Z ∧ ∀ ds : List Int, ds ++ Y = ds ++ (List.replicate 0 (-77) ++ List.replicate (8 - 0) 0) := ⟨Z, rfl, fun ds => by rw [hZ]; rfl⟩
  clear hZ
  clear hM hcp
  unfold manV
  go_enter Tryd.func4, Tryd.ntmps4
  go_wp2_with fail
  obtain ⟨W3, hW3⟩ : ∃ W, W = ((w.alloc (.cells #[.int .i64 k, .int .i64 rt, .int .i64 s, .int .i64 t, .slice p ds.length cap] 32)).alloc (.cells M 3)).setRow (w.heap.size + 1) ((ds ++ Z).map fun n => Value.int .i64 n).toArray := ⟨_, rfl⟩
  have hr3 : NRow W3 (w.heap.size + 1) (ds ++ Z) := by
    rw [hW3]
    have h := hnew (w.alloc (.cells #[.int .i64 k, .int .i64 rt, .int .i64 s, .int .i64 t, .slice p ds.length cap] 32))
    rw [World.size_alloc] at h
    exact setRow_heap _ _ _ _ _ _ h
  have hB3 : Below w.heap.size w W3 := by rw [hW3]; exact below_setRow (((Below.refl _ w).alloc (Nat.le_refl _) _).alloc (by simp) _) (by omega) _
  have hM3 : W3.heap[w.heap.size]? = some (.cells #[.int .i64 k, .int .i64 rt, .int .i64 s, .int .i64 t, .slice p ds.length cap] 32 (0, 0)) := by
    rw [hW3, setRow_other _ _ _ _ (by omega), Below.heap_alloc _ _ _ (by simp)]; exact heap_alloc_new w _
  obtain ⟨Y, hY, hYs⟩ := hZh
  subst hY
  have hW3b := hW3
  rw [List.map_append] at hW3b
  rw [← hW3b]
  clear hW3 hW3b hcq hnew hmk hIv c0 c1 c2 c3 c4
  rw [hYs] at hr3
  go_loopw [7] (fun i wr => ∃ j : Nat, j ≤ 8 ∧ i = .int .i64 ((ds.length + j : Nat) : Int) ∧ NRow wr (w.heap.size + 1) (ds ++ (List.replicate j (-77) ++ List.replicate (8 - j) 0)) ∧ wr.heap[w.heap.size]? = some (.cells #[.int .i64 k, .int .i64 rt, .int .i64 s, .int .i64 t, .slice p ds.length cap] 32 (0, 0)) ∧ Below w.heap.size w wr) (fun i _ => (ds.length + 8 - intOf i).toNat)
  case atStart => exact ⟨0, by omega, rfl, hr3, hM3, hB3⟩
  case round =>
    obtain ⟨j, hj, rfl, hr, hM, hB⟩ := hrel
    by_cases hj8 : j < 8
    · have hlj : ds.length + j < (ds ++ (List.replicate j (-77) ++ List.replicate (8 - j) (0 : Int))).length := by simp; omega
      obtain ⟨x9, hcl⟩ : ∃ x, wr.cell? ⟨w.heap.size + 1, ds.length + j, none⟩ = some (.int .i64 x) := ⟨_, hr.cell (ds.length + j) hlj⟩
      clear hlj
      have hmk := hr.mark (ds.length + j)
      have hrs := hr.set (ds.length + j) (-77)
      rw [room_set ds (-77) j hj8] at hrs
      go_wp2_with fail
      go_roundw
      case rel => exact ⟨j + 1, by omega, by go_num, hrs, (Below.heap_setCell _ _ _ _ (by simp)).trans hM, hB.setCell (by simp) _⟩
      case measure => simp [intOf]; omega
    · obtain rfl : j = 8 := by omega
      have e8 : ds ++ (List.replicate 8 (-77) ++ List.replicate (8 - 8) (0 : Int)) = ds ++ List.replicate 8 (-77) := rfl
      rw [e8] at hr
      obtain ⟨R8, hR8⟩ : ∃ R, R = List.replicate 8 (-77 : Int) := ⟨_, rfl⟩
      rw [← hR8] at hr
      have hR8l : R8.length = 8 := by rw [hR8]; rfl
      have hR8g : ∀ x, x ∈ R8 → x = -77 := fun x hx => by rw [hR8] at hx; exact List.eq_of_mem_replicate hx
      clear e8 hR8
      have hK : Kp w wr k rt s t (.slice p ds.length cap) (ds ++ R8) := ⟨hM, hr, hB⟩
      have hBs := hS.size
      have hk1 := fun W hS hT hv => tencM_any A B ⟨k, rt, s, t, ds⟩ (.slice (some ⟨w.heap.size + 1, 0, none⟩) ds.length (ds.length + 8)) W hS hT hv
      have hk2 := fun W hv => rencM_any ⟨k, rt, s, t, ds⟩ (.slice p ds.length cap) W hv
      have hk3 := fun W hva hvb => sameI_ok ds (.slice (some ⟨w.heap.size + 1, 0, none⟩) ds.length (ds.length + 8)) (.slice p ds.length cap) W hva hvb (by omega)
      generalize encMB ⟨k, rt, s, t, ds⟩ = sb at hk1 hk2
      generalize encME ⟨k, rt, s, t, ds⟩ = se at hk1 hk2
      unfold manV at hk1 hk2
      simp only at hk1 hk2
      have hv : IRow w (.slice p ds.length cap) ds := ⟨p, cap, rfl, hc⟩
      obtain ⟨m0, m1, m2, m3, m4⟩ := hK.m.cells
      clear hr hM hB hM3 hr3 hB3 hc
      go_wp2_with fail
      have hK1 := hK.alloc (.cells #[.int .i64 k, .int .i64 rt, .int .i64 s, .int .i64 t, .slice (some ⟨w.heap.size + 1, 0, none⟩) ds.length (ds.length + 8)] 32)
      refine (hk1 _ (hS.to (hK1.be.mono hBs)) (hT.to hK1.be hT.lt) (hK1.r.pre _)).mono ?_
      rintro e w1 ⟨rfl, hb1⟩
      have hK2 := hK1.to hb1
      clear hk1 hb1 hK1 hK m0 m1 m2 m3 m4
      obtain ⟨m0, m1, m2, m3, m4⟩ := hK2.m.cells
      go_wp2_with fail
      refine (hk2 _ (hv.to hK2.be)).mono ?_
      rintro e w2 ⟨rfl, hb2⟩
      have hK3 := hK2.to hb2
      clear hk2 hb2 hK2 m0 m1 m2 m3 m4
      obtain ⟨m0, m1, m2, m3, m4⟩ := hK3.m.cells
      go_wp2_with fail
      have hX3 : IRow w2 (.slice (some ⟨w.heap.size + 1, 0, none⟩) ds.length (ds.length + 8)) ds := hK3.r.pre _
      have hY3 : IRow w2 (.slice p ds.length cap) ds := hv.to hK3.be
      go_region_held (fun w' => w'.cell? ⟨w.heap.size, 4, none⟩ = some (.slice p ds.length cap)) (go_keep)
        (first | (go_at_call 11; refine (hk3 _ (by exact hX3) (by exact hY3)).mono ?_; rintro e w3 ⟨rfl, n3, hw3⟩; have hc3 : w3.cell? ⟨w.heap.size, 4, none⟩ = some (.slice p ds.length cap) := (by rw [hw3]; exact m4)))
      have hK4 : Kp w (w2.drewN (1 + n3)) k rt s t (.slice p ds.length cap) (ds ++ R8) := hK3.drewN _
      generalize w2.drewN (1 + n3) = w4 at *
      have hcl : ∀ j, j < 8 → w4.cell? ⟨w.heap.size + 1, ds.length + j, none⟩ = some (.int .i64 (-77)) := fun j hj => by
        have h := hK4.r.cell (ds.length + j) (by rw [List.length_append]; omega)
        rw [List.getElem_append_right (by omega)] at h
        rw [h, hR8g _ (List.getElem_mem _)]
      clear hk3 hX3 hY3 hK3 m0 m1 m2 m3 m4
      simp only [Exit.then]
      go_wp2_with fail
      go_loopw [13, 14] (fun st i wx => ∃ j : Nat, j ≤ 8 ∧ i = .int .i64 ((ds.length + j : Nat) : Int) ∧ st = .bool true ∧ ∃ n, wx = w4.drewN n) (fun _ i _ => (ds.length + 8 - intOf i).toNat)
      case atStart => exact ⟨0, by omega, rfl, rfl, 0, rfl⟩
      case round =>
        obtain ⟨j, hj, rfl, rfl, n4, rfl⟩ := hrel
        by_cases hj8 : j < 8
        · have hc9 : (w4.drewN n4).cell? ⟨w.heap.size + 1, ds.length + j, none⟩ = some (.int .i64 (-77)) := hcl j hj8
          go_wp2_with fail
          refine ⟨⟨j + 1, by omega, by go_num, rfl, _, rfl⟩, ?_⟩
          simp [intOf]; omega
        · obtain rfl : j = 8 := by omega
          have hK5 := hK4.drewN n4
          have hk5 := fun W hS hT => tdecM_any A B l W hS hT hTB (by omega)
          have hk6 := fun W => rdecM_any l W hl
          have hdl := dM_len l hl
          generalize dM l = D at hk5 hk6 hdl
          generalize dX l = dx at hk5 hk6
          obtain ⟨d0, d1, d2, d3, dd⟩ := D
          unfold manV at hk5 hk6
          simp only at hk5 hk6 hdl
          have hkI := fun W va vb hva hvb => sameI_ok dd va vb W hva hvb (by omega)
          generalize w4.drewN n4 = w5 at *
          clear hcl hK4 hv
          go_wp2_with fail
          refine (hk5 _ (hS.to (hK5.be.mono hBs)) (hT.to hK5.be hT.lt)).mono ?_
          rintro e w6 ⟨pp, rfl, hrow, hb6⟩
          have hK6 := hK5.to hb6
          have hs5 := hK5.lt
          have hK6s := hK6.lt
          have hxr : XR w6 pp dd := by
            rcases hrow with ⟨g, h1, _, h2⟩ | h
            · exact Or.inl ⟨g, h1, h2⟩
            · exact Or.inr h
          have hxg : ∀ g, pp = some ⟨g, 0, none⟩ → w.heap.size + 2 ≤ g ∧ g < w6.heap.size := fun g hg => by
            rcases hrow with ⟨g', h1, h2, h3⟩ | ⟨h, _⟩
            · rw [hg] at h1; simp at h1; subst h1; exact ⟨by omega, h3.lt⟩
            · rw [h] at hg; cases hg
          clear hb6 hK5 hrow
          go_wp2_with fail
          have hbn := (Below.refl _ w6).alloc (Nat.le_refl _) (.cells #[.int .i64 d0, .int .i64 d1, .int .i64 d2, .int .i64 d3, .slice pp dd.length dd.length] 32)
          have hMx : MBlk _ w6.heap.size d0 d1 d2 d3 (.slice pp dd.length dd.length) := heap_alloc_new w6 (.cells #[.int .i64 d0, .int .i64 d1, .int .i64 d2, .int .i64 d3, .slice pp dd.length dd.length] 32)
          have hK7 := hK6.to hbn
          have hxr7 := hxr.to hbn
          have hs7 : w6.heap.size < (w6.alloc (.cells #[.int .i64 d0, .int .i64 d1, .int .i64 d2, .int .i64 d3, .slice pp dd.length dd.length] 32)).heap.size := by simp
          clear hK6 hxr hbn
          generalize hbx : w6.heap.size = bx at *
          generalize w6.alloc (.cells #[.int .i64 d0, .int .i64 d1, .int .i64 d2, .int .i64 d3, .slice pp dd.length dd.length] 32) = w7 at *
          refine (hk6 _).mono ?_
          rintro e w8 ⟨u, rfl, hO8, hb8⟩
          have hK8 := hK7.to hb8
          have hx8 := hMx.to hb8
          have hxr8 := hxr7.to hb8
          have hs8 := hb8.size
          clear hb8 hK7 hMx hxr7
          obtain ⟨pu, cu, rfl, _⟩ := hO8.irow
          have hbn := (Below.refl _ w8).alloc (Nat.le_refl _) (.cells #[.int .i64 d0, .int .i64 d1, .int .i64 d2, .int .i64 d3, .slice pu dd.length cu] 32)
          have hMy : MBlk _ w8.heap.size d0 d1 d2 d3 (.slice pu dd.length cu) := heap_alloc_new w8 (.cells #[.int .i64 d0, .int .i64 d1, .int .i64 d2, .int .i64 d3, .slice pu dd.length cu] 32)
          have hK9 := hK8.to hbn
          have hx9 := hx8.to hbn
          have hxr9 := hxr8.to hbn
          have hO9 := hO8.to hbn
          have hol9 : ∀ j, (Value.slice pu dd.length cu).ownBlock = some j → w7.heap.size ≤ j ∧ j < w8.heap.size := fun j hj => by
            have h1 := hO8.block j hj
            unfold OwnI at hO8
            obtain ⟨_, cur, fz, h2⟩ := own_type hO8 hj.symm
            exact ⟨h1, lt_of_cells h2⟩
          have hs9 : w8.heap.size < (w8.alloc (.cells #[.int .i64 d0, .int .i64 d1, .int .i64 d2, .int .i64 d3, .slice pu dd.length cu] 32)).heap.size := by simp
          clear hK8 hx8 hxr8 hO8 hbn
          generalize hby : w8.heap.size = bY at *
          generalize hw9 : w8.alloc (.cells #[.int .i64 d0, .int .i64 d1, .int .i64 d2, .int .i64 d3, .slice pu dd.length cu] 32) = w9 at *
          obtain ⟨x0, x1, x2, x3, x4⟩ := hx9.cells
          obtain ⟨y0, y1, y2, y3, y4⟩ := hMy.cells
          go_wp2_with (rw [hby, hw9])
          refine (hkI _ _ _ hxr9.irow hO9.irow).mono ?_
          rintro e w' ⟨rfl, n9, rfl⟩
          have hKa : Kp w (w9.drewN n9) k rt s t (.slice p ds.length cap) (ds ++ R8) := hK9.drewN n9
          have hxa : MBlk (w9.drewN n9) bx d0 d1 d2 d3 (.slice pp dd.length dd.length) := hx9
          have hya : MBlk (w9.drewN n9) bY d0 d1 d2 d3 (.slice pu dd.length cu) := hMy
          have hxra : XR (w9.drewN n9) pp dd := hxr9
          have hOa : OwnI w7.heap.size (w9.drewN n9) (.slice pu dd.length cu) dd := hO9
          have hsa : bY < (w9.drewN n9).heap.size := hs9
          clear hK9 hx9 hMy hxr9 hO9 x0 x1 x2 x3 x4 y0 y1 y2 y3 y4 hs9 hw9
          generalize w9.drewN n9 = wa at *
          have hbn := (Below.refl _ wa).alloc (Nat.le_refl _) (.cells #[.int .i64 0, .slice none 0 0] 40)
          have hbk : (wa.alloc (.cells #[.int .i64 0, .slice none 0 0] 40)).heap[wa.heap.size]? = some (.cells #[.int .i64 0, .slice none 0 0] 40 (0, 0)) := heap_alloc_new wa _
          have hKb := hKa.to hbn
          have hxb := hxa.to hbn
          have hyb := hya.to hbn
          have hxrb := hxra.to hbn
          have hOb := hOa.to hbn
          have hsb : (wa.alloc (.cells #[.int .i64 0, .slice none 0 0] 40)).heap.size = wa.heap.size + 1 := by simp
          clear hKa hxa hya hxra hOa hbn
          generalize hbkn : wa.heap.size = bk at *
          generalize hwb : wa.alloc (.cells #[.int .i64 0, .slice none 0 0] 40) = wb at *
          obtain ⟨x0, x1, x2, x3, x4⟩ := hxb.cells
          go_wp2_with (rw [hbkn, hwb])
          obtain ⟨gx, hgx1, hgx2, hgx3, hgx4⟩ : ∃ gx, w.heap.size + 2 ≤ gx ∧ gx ≠ bk ∧ (gx < bx ∨ bk < gx) ∧ ((pp = some ⟨gx, 0, none⟩ ∧ NRow wb gx dd) ∨ (pp = none ∧ dd = [])) := by
            rcases hxrb with ⟨g, h0, h⟩ | h
            · obtain ⟨h1, h2⟩ := hxg g h0
              exact ⟨g, h1, by omega, Or.inl h2, Or.inl ⟨h0, h⟩⟩
            · exact ⟨bk + 1, by have := hKb.lt; omega, by omega, Or.inr (by omega), Or.inr h⟩
          refine (bints_any bk gx dd pp wb hbk hgx2 hgx4 hdl).mono ?_
          rintro e wc ⟨rfl, ⟨vs, uu, hvs, hBk⟩, hTc⟩
          have hsc := hTc.size
          have hKc := hKb.touch hTc (by have := hK6s; omega) hgx1
          have hxc := hxb.keep (hTc.block bx hxb.lt (by omega) (by omega))
          have hyc := hyb.keep (hTc.block bY hyb.lt (by omega) (by omega))
          have hOc : OwnI w7.heap.size wc (.slice pu dd.length cu) dd := own_keep hOb fun j hj => by
            obtain ⟨h1, h2⟩ := hol9 j hj.symm
            exact hTc.block j (by omega) (by omega) (by omega)
          clear hKb hxb hyb hxrb hOb hTc hbk hgx4 hwb x0 x1 x2 x3 x4
          go_wp2_with fail
          refine (hk5 _ (hS.to (hKc.be.mono hBs)) (hT.to hKc.be hT.lt)).mono ?_
          rintro e wd ⟨pz, rfl, hrow, hbd⟩
          have hKd := hKc.to hbd
          have hxd := hxc.to hbd
          have hyd := hyc.to hbd
          have hOd := hOc.to hbd
          have hBd := hBk.below hbd rfl
          have hsd := hbd.size
          have hzr : XR wd pz dd := by
            rcases hrow with ⟨g, h1, _, h2⟩ | h
            · exact Or.inl ⟨g, h1, h2⟩
            · exact Or.inr h
          clear hbd hKc hxc hyc hOc hBk hrow hk5 hk6
          have hbn := (Below.refl _ wd).alloc (Nat.le_refl _) (.cells #[.int .i64 d0, .int .i64 d1, .int .i64 d2, .int .i64 d3, .slice pz dd.length dd.length] 32)
          have hMz : MBlk _ wd.heap.size d0 d1 d2 d3 (.slice pz dd.length dd.length) := heap_alloc_new wd (.cells #[.int .i64 d0, .int .i64 d1, .int .i64 d2, .int .i64 d3, .slice pz dd.length dd.length] 32)
          have hKe := hKd.to hbn
          have hxe := hxd.to hbn
          have hye := hyd.to hbn
          have hOe := hOd.to hbn
          have hBe := hBd.below hbn rfl
          have hze := hzr.to hbn
          have hse := hbn.size
          clear hKd hxd hyd hOd hBd hzr hbn
          generalize hbz : wd.heap.size = bz at *
          generalize hwe : wd.alloc (.cells #[.int .i64 d0, .int .i64 d1, .int .i64 d2, .int .i64 d3, .slice pz dd.length dd.length] 32) = we at *
          obtain ⟨y0, y1, y2, y3, y4⟩ := hye.cells
          obtain ⟨z0, z1, z2, z3, z4⟩ := hMz.cells
          go_wp2_with (rw [hbz, hwe])
          refine (hkI _ _ _ hze.irow hOe.irow).mono ?_
          rintro e w' ⟨rfl, n10, rfl⟩
          have hKf : Kp w (we.drewN n10) k rt s t (.slice p ds.length cap) (ds ++ R8) := hKe.drewN n10
          have hxf : MBlk (we.drewN n10) bx d0 d1 d2 d3 (.slice pp dd.length dd.length) := hxe
          have hyf : MBlk (we.drewN n10) bY d0 d1 d2 d3 (.slice pu dd.length cu) := hye
          have hzf : MBlk (we.drewN n10) bz d0 d1 d2 d3 (.slice pz dd.length dd.length) := hMz
          have hBf : Bk bk wb.heap.size (dd.length + 4) (we.drewN n10) vs uu := ⟨hBe.blk, hBe.row, hBe.full⟩
          clear hKe hxe hye hMz hBe hze hOe y0 y1 y2 y3 y4 z0 z1 z2 z3 z4 hwe hkI hol9
          generalize we.drewN n10 = wf at *
          go_wp2_with fail
          refine (still_any bk wb.heap.size (dd.length + 4) (by omega) vs uu wf hBf (by omega) (by omega)).mono ?_
          rintro e wg ⟨rfl, hbg⟩
          have hKg := hKf.to hbg
          have hxg2 := hxf.to hbg
          have hyg := hyf.to hbg
          have hzg := hzf.to hbg
          clear hKf hxf hyf hzf hBf hbg
          go_wp2_with fail
          have h5r : NRow (wg.alloc (.cells #[.int .i64 5] 3)) wg.heap.size [5] := heap_alloc_new wg _
          have hkL := tencM_ok ⟨8, 7, 8, 1, [5]⟩ (.slice (some ⟨wg.heap.size, 0, none⟩) 1 1) [8, 0, 0, 0, 7, 8, 1, 0, 0, 0, 5] _ (h5r.irow 1) (by decide)
          unfold manV at hkL
          simp only at hkL
          have hKh := hKg.alloc (.cells #[.int .i64 5] 3)
          have hbn := (Below.refl _ wg).alloc (Nat.le_refl _) (.cells #[.int .i64 5] 3)
          have hxh := hxg2.to hbn
          have hyh := hyg.to hbn
          have hzh := hzg.to hbn
          refine hkL.mono ?_
          rintro e wi ⟨rfl, hbi⟩
          have hKi := hKh.to hbi
          obtain ⟨x0, x1, x2, x3, x4⟩ := (hxh.to hbi).cells
          obtain ⟨y0, y1, y2, y3, y4⟩ := (hyh.to hbi).cells
          obtain ⟨z0, z1, z2, z3, z4⟩ := (hzh.to hbi).cells
          have hs2 : (S [8, 0, 0, 0, 7, 8, 1, 0, 0, 0, 5]).toList = [8, 0, 0, 0, 7, 8, 1, 0, 0, 0, 5] := by rw [Lib.toList_data, S_list]
          have hbe := hKi.be
          clear hkL h5r hKh hbn hxh hyh hzh hbi hKi hKg hxg2 hyg hzg hS hT
          go_wp2_with fail
          go_ret
          exact ⟨rfl, hbe⟩
end Go.Proofs.YtddcbeeldjjmeaaDoor.Tw
