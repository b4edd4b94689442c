/- The law Proofs. -/
import Derived.Test.YtddcbeeldjjmeaaGreatDoorProBoth
import Derived.Laws.CopyOwn
import Derived.Deep.RegionHeldLaw
import Derived.Deep.RegionHeld3
import Derived.Deep.DrawnRows
import Derived.Deep.QuietTactic
import Derived.BigQuiet
namespace Go.Proofs.YtddcbeeldjjmeaaGreatDoor.Tw
open Go.RowKit Go.Proofs.YtddcbeeldjjmeaaGreatDoor.Pu
set_option linter.unusedVariables false
set_option linter.unusedSimpArgs false

/-- What stays while the law runs: the proof's box, the row of its own, the mark's box. -/
structure KpU (w W : World) (n : Nd) (v : Value) (N : Nat) (F : Nat → Us) : Prop where
  m : PBlk W w.heap.size n v
  r : UBlk W (w.heap.size + 1) N F
  k : UB W (w.heap.size + 2) 77 [] 0
  be : Below w.heap.size w W
theorem KpU.lt {w W : World} {n : Nd} {v : Value} {N : Nat} {F : Nat → Us} (h : KpU w W n v N F) : w.heap.size + 2 < W.heap.size := h.k.lt
theorem KpU.to {w W W' : World} {n : Nd} {v : Value} {N : Nat} {F : Nat → Us} (h : KpU w W n v N F) (b : Below W.heap.size W W') : KpU w W' n v N F :=
  ⟨h.m.keep (b.block _ h.m.lt), h.r.keep (b.block _ h.r.lt), h.k.keep (b.block _ h.k.lt), h.be.trans (b.mono h.be.size)⟩
theorem KpU.alloc {w W : World} {n : Nd} {v : Value} {N : Nat} {F : Nat → Us} (h : KpU w W n v N F) (o : Obj) : KpU w (W.alloc o) n v N F := h.to ((Below.refl _ W).alloc (Nat.le_refl _) o)
theorem KpU.drew {w W : World} {n : Nd} {v : Value} {N : Nat} {F : Nat → Us} (h : KpU w W n v N F) : KpU w W.drew n v N F := ⟨h.m, h.r, h.k, h.be.drew⟩
theorem KpU.drewN {w W : World} {n : Nd} {v : Value} {N : Nat} {F : Nat → Us} (h : KpU w W n v N F) (q : Nat) : KpU w (W.drewN q) n v N F := ⟨h.m, h.r, h.k, below_drewN h.be q⟩
theorem KpU.touch {bk gx : Nat} {w W W' : World} {n : Nd} {v : Value} {N : Nat} {F : Nat → Us} (h : KpU w W n v N F) (b : TouchU bk gx W W') (h1 : w.heap.size + 3 ≤ bk) (h2 : w.heap.size + 3 ≤ gx) : KpU w W' n v N F :=
  have hl := h.lt
  ⟨h.m.keep (b.block _ h.m.lt (by omega) (by omega)), h.r.keep (b.block _ h.r.lt (by omega) (by omega)), h.k.keep (b.block _ h.k.lt (by omega) (by omega)), ⟨b.os.trans h.be.os, b.tape.trans h.be.tape, b.output.trans h.be.output, Nat.le_trans h.be.size b.size, fun j hj => (b.block j (by omega) (by omega) (by omega)).trans (h.be.block j hj)⟩⟩
theorem PBlk.to {w w' : World} {g : Nat} {n : Nd} {v : Value} (h : PBlk w g n v) (k : Below w.heap.size w w') : PBlk w' g n v := h.keep (k.block _ h.lt)
theorem OwnU.to {base : Nat} {w w' : World} {v : Value} {l : List Us} (h : OwnU base w v l) (k : Below w.heap.size w w') : OwnU base w' v l := h.keepB fun j hj => k.block j (h.lt j hj)

set_option maxHeartbeats 1000000 in
theorem sameU_big (us : List Us) (va vb : Value) (w : World) (ha : URow w va us) (hb : URow w vb us) (hl : us.length ≤ 1048576) :
    Calls Tryz.prog 13 #[va, vb] w fun e w' => e = .returned (.bool true) ∧ ∃ n, w' = w.drewN n := by
  obtain ⟨pa, ca, rfl, ha⟩ := ha
  obtain ⟨pb, cb, rfl, hb⟩ := hb
  go_enter Tryz.func13, Tryz.ntmps13
  go_wp2_with fail
  go_loopw [5] (fun i wr => ∃ j : Nat, j ≤ us.length ∧ i = .int .i64 j ∧ ∃ n, wr = w.drewN n) (fun i _ => (us.length - intOf i).toNat)
  case atStart => exact ⟨0, by omega, rfl, 0, rfl⟩
  case round =>
    obtain ⟨j, hj, rfl, n, rfl⟩ := hrel
    by_cases hjn : j < us.length
    · obtain ⟨a, rfl, ha0, ha1, ha2⟩ := ha j hjn
      obtain ⟨b, rfl, hb0, hb1, hb2⟩ := hb j hjn
      generalize us[j] = u at ha0 ha1 ha2 hb0 hb1 hb2
      clear ha hb
      go_wp2_with fail
      go_quiet (fail)
      go_wp2_with fail
      go_roundw
      case rel => exact ⟨j + 1, by omega, by go_num, _, rfl⟩
      case measure => simp [intOf]; omega
    · obtain rfl : j = us.length := by omega
      go_wp2
      go_ret
      exact ⟨rfl, _, rfl⟩

set_option maxRecDepth 20000 in
set_option maxHeartbeats 4000000 in
theorem proLaw_any (A : Nat → Addr) (B : Nat) (p : Pf) (v : Value) (l : List UInt8) (w : World) (hS : Sents A B w) (hT : Tab w) (hTB : 23 < B) (hv : URow w v p.ups) (hn : p.ups.length ≤ 1048576) (hp0 : p.bottom.path.length ≤ 9223372036854775807) (hpl : ∀ u, u ∈ p.ups → u.path.length ≤ 9223372036854775807) (hl : l.length ≤ 1048576) :
    Calls Tryz.prog 3 #[prfV p v, .string (S l)] w fun e w' => e = .returned (.bool true) ∧ Below w.heap.size w w' := by
  obtain ⟨m, us⟩ := p
  simp only at hv hn hp0 hpl
  obtain ⟨p, cap, rfl, hc⟩ := hv
  have hv : URow w (.slice p us.length cap) us := ⟨p, cap, rfl, hc⟩
  have hBs := hS.size
  obtain ⟨M, hM⟩ : ∃ M, M = madeCells (Value.agg #[.int .i64 0, .string ⟨#[]⟩, .int .i64 0]).cells ((us.length + 8) * 3) := ⟨_, rfl⟩
  have hmk := make_ups9 (us.length + 8) (by omega) M hM
  rw [show (((us.length + 8 : Nat) : Int)) = (us.length : Int) + 8 from rfl] at hmk
  obtain ⟨wa, hwa⟩ : ∃ W, W = w.alloc (.cells #[.int .i64 m.kind, .string (S m.path), .string (S m.value), .int .i64 m.left, .int .i64 m.right, .slice p us.length cap] 26) := ⟨_, rfl⟩
  have hsa : wa.heap.size = w.heap.size + 1 := by rw [hwa]; simp
  have hma : PBlk wa w.heap.size m (.slice p us.length cap) := by rw [hwa]; exact heap_alloc_new w _
  have hba : Below w.heap.size w wa := by rw [hwa]; exact (Below.refl _ w).alloc (Nat.le_refl _) _
  obtain ⟨wb, hwb⟩ : ∃ W, W = wa.alloc (.cells M 28) := ⟨_, rfl⟩
  have hrb : UBlk wb (w.heap.size + 1) (us.length + 8) (fun _ => zeroU) := by
    have h := UBlk.new wa (us.length + 8)
    rw [← hM, ← hwb, hsa] at h
    exact h
  have hbb : Below w.heap.size w wb := by rw [hwb]; exact hba.alloc hba.size _
  have hmb : PBlk wb w.heap.size m (.slice p us.length cap) := by rw [hwb]; exact hma.keep (Below.heap_alloc _ _ _ (by omega))
  have hsb : wb.heap.size = w.heap.size + 2 := by rw [hwb]; simp [hsa]
  obtain ⟨X, hcp, hrc⟩ := copyU wb (w.heap.size + 1) 8 us p cap hrb (hv.to hbb)
  have hbc : Below w.heap.size w (wb.setRow (w.heap.size + 1) X) := below_setRow hbb (by omega) X
  have hmc : PBlk (wb.setRow (w.heap.size + 1) X) w.heap.size m (.slice p us.length cap) := hmb.keep (setRow_other _ _ _ _ (by omega))
  have hsc : (wb.setRow (w.heap.size + 1) X).heap.size = w.heap.size + 2 := by rw [← hsb]; simp [World.setRow]
  obtain ⟨a0, a1, a2, a3, a4, a5⟩ := hma.cells
  obtain ⟨b0, b1, b2, b3, b4, b5⟩ := hmb.cells
  clear hM
  unfold prfV
  go_enter Tryz.func3, Tryz.ntmps3
  go_wp2_with (first | rw [← hwa, hsa] | rw [← hwa] | rw [← hwb])
  rw [hcp]
  obtain ⟨wc, hwc⟩ : ∃ W, W = wb.setRow (w.heap.size + 1) X := ⟨_, rfl⟩
  rw [← hwc] at hrc hbc hmc hsc
  rw [← hwc]
  clear hcp hmk hwa hwb hwc hsa hma hba hrb hbb hmb hsb a0 a1 a2 a3 a4 a5 b0 b1 b2 b3 b4 b5
  go_wp2_with (rw [hsc])
  try rw [hsc]
  have hK0 : KpU w (wc.alloc (.cells #[.int .i64 77, .string ⟨#[]⟩, .int .i64 0] 28)) m (.slice p us.length cap) (us.length + 8) (roomF us 0) := by
    have hbn := (Below.refl _ wc).alloc (Nat.le_refl _) (.cells #[.int .i64 77, .string ⟨#[]⟩, .int .i64 0] 28)
    have h := heap_alloc_new wc (.cells #[.int .i64 77, .string ⟨#[]⟩, .int .i64 0] 28)
    rw [hsc] at h
    exact ⟨hmc.keep (hbn.block _ hmc.lt), hrc.keep (hbn.block _ hrc.lt), h, hbc.alloc hbc.size _⟩
  clear hrc hbc hmc hsc
  generalize wc.alloc (.cells #[.int .i64 77, .string ⟨#[]⟩, .int .i64 0] 28) = wd at *
  go_loopw [8] (fun i wr => ∃ j : Nat, j ≤ 8 ∧ i = .int .i64 ((us.length + j : Nat) : Int) ∧ KpU w wr m (.slice p us.length cap) (us.length + 8) (roomF us j)) (fun i _ => (us.length + 8 - intOf i).toNat)
  case atStart => exact ⟨0, by omega, rfl, hK0⟩
  case round =>
    obtain ⟨j, hj, rfl, hK⟩ := hrel
    by_cases hj8 : j < 8
    · obtain ⟨k0, k1, k2⟩ := hK.k.cells
      obtain ⟨r0, r1, r2⟩ := hK.r.cells (us.length + j) (by omega)
      have hmr := hK.r.mark
      have hput := hK.r.put (us.length + j) m77
      have e1 : ∀ a b c o, o ≠ w.heap.size + 1 → (((wr.setCell ⟨w.heap.size + 1, (us.length + j) * 3, none⟩ a).setCell ⟨w.heap.size + 1, (us.length + j) * 3 + 1, none⟩ b).setCell ⟨w.heap.size + 1, (us.length + j) * 3 + 2, none⟩ c).heap[o]? = wr.heap[o]? := fun a b c o ho => by
        rw [Below.heap_setCell _ _ _ _ (show o ≠ w.heap.size + 1 from ho), Below.heap_setCell _ _ _ _ (show o ≠ w.heap.size + 1 from ho), Below.heap_setCell _ _ _ _ (show o ≠ w.heap.size + 1 from ho)]
      have hKn : KpU w (((wr.setCell ⟨w.heap.size + 1, (us.length + j) * 3, none⟩ (.int .i64 m77.side)).setCell ⟨w.heap.size + 1, (us.length + j) * 3 + 1, none⟩ (.string (S m77.path))).setCell ⟨w.heap.size + 1, (us.length + j) * 3 + 2, none⟩ (.int .i64 m77.other)) m (.slice p us.length cap) (us.length + 8) (roomF us (j + 1)) :=
        ⟨hK.m.keep (e1 _ _ _ _ (by omega)), hput.same fun i _ => roomF_set us j i, hK.k.keep (e1 _ _ _ _ (by omega)), below_set (below_set (below_set hK.be _ _ _ (by omega)) _ _ _ (by omega)) _ _ _ (by omega)⟩
      clear hput e1 hK
      go_wp2_with fail
      go_roundw
      case rel => exact ⟨j + 1, by omega, by go_num, hKn⟩
      case measure => simp [intOf]; omega
    · obtain rfl : j = 8 := by omega
      have hrow : ∀ W, KpU w W m (.slice p us.length cap) (us.length + 8) (roomF us 8) → URow W (.slice (some ⟨w.heap.size + 1, 0, none⟩) us.length (us.length + 8)) us := fun W h => h.r.pre (by omega) (roomF_pre us 8) _
      have hk1 := fun W hS hT hv => tencP_any A B ⟨m, us⟩ (.slice (some ⟨w.heap.size + 1, 0, none⟩) us.length (us.length + 8)) W hS hT hv hp0 hpl
      have hk2 := fun W hv => rencP_any ⟨m, us⟩ (.slice p us.length cap) W hv hp0 hpl
      generalize encPB ⟨m, us⟩ = sb at hk1 hk2
      generalize encPE ⟨m, us⟩ = se at hk1 hk2
      unfold prfV at hk1 hk2
      simp only at hk1 hk2
      obtain ⟨m0, m1, m2, m3, m4, m5⟩ := hK.m.cells
      have hSr := hS.to (hK.be.mono hBs)
      have hSd := hS.to (hK.be.drew.mono hBs)
      have hTr := hT.to hK.be hT.lt
      have hTd := hTr.drew
      have hRr := hrow wr hK
      clear hpl hp0 hc hK0 hj8 hj
      go_wp2_with fail
      go_region_held (fun w' => w'.cell? ⟨w.heap.size, 0, none⟩ = some (.int .i64 m.kind) ∧ w'.cell? ⟨w.heap.size, 1, none⟩ = some (.string (S m.path)) ∧ w'.cell? ⟨w.heap.size, 2, none⟩ = some (.string (S m.value)) ∧ w'.cell? ⟨w.heap.size, 3, none⟩ = some (.int .i64 m.left) ∧ w'.cell? ⟨w.heap.size, 4, none⟩ = some (.int .i64 m.right)) (go_keep)
        (first | (go_at_call 11; refine (hk1 _ (by first | exact hSr | exact hSd) (by first | exact hTr | exact hTd) (by exact hRr)).mono ?_; rintro e w1 ⟨rfl, hb1⟩; have hc1 := fun o => hb1.cell (p := ⟨w.heap.size, o, none⟩) (by have := hK.m.lt; exact this)))
      have hK1 : KpU w w1 m (.slice p us.length cap) (us.length + 8) (roomF us 8) := hK.drew.to hb1
      clear hk1 hb1 hc1 hSr hSd hTr hTd hRr m0 m1 m2 m3 m4 m5
      obtain ⟨m0, m1, m2, m3, m4, m5⟩ := hK1.m.cells
      simp only [Exit.then]
      go_wp2_with fail
      refine (hk2 _ (hv.to hK1.be)).mono ?_
      rintro e w2 ⟨rfl, hb2⟩
      have hK3 := hK1.to hb2
      clear hk2 hb2 hK1 m0 m1 m2 m3 m4 m5
      obtain ⟨m0, m1, m2, m3, m4, m5⟩ := hK3.m.cells
      have hk3 := fun W hva hvb => sameU_big us (.slice (some ⟨w.heap.size + 1, 0, none⟩) us.length (us.length + 8)) (.slice p us.length cap) W hva hvb (by omega)
      have hX3 : URow w2 (.slice (some ⟨w.heap.size + 1, 0, none⟩) us.length (us.length + 8)) us := hrow w2 hK3
      have hY3 : URow w2 (.slice p us.length cap) us := hv.to hK3.be
      go_wp2_with fail
      go_region_held (fun w' => w'.cell? ⟨w.heap.size, 5, none⟩ = some (.slice p us.length cap)) (go_keep)
        (first | (go_at_call 13; refine (hk3 _ (by exact hX3) (by exact hY3)).mono ?_; rintro e w3 ⟨rfl, n3, hw3⟩; have hc3 : w3.cell? ⟨w.heap.size, 5, none⟩ = some (.slice p us.length cap) := (by rw [hw3]; exact m5)))
      have hK4 : KpU w (w2.drewN (1 + n3)) m (.slice p us.length cap) (us.length + 8) (roomF us 8) := hK3.drewN _
      generalize w2.drewN (1 + n3) = w4 at *
      have hcl : ∀ j, j < 8 → w4.cell? ⟨w.heap.size + 1, (us.length + j) * 3, none⟩ = some (.int .i64 77) ∧ w4.cell? ⟨w.heap.size + 1, (us.length + j) * 3 + 1, none⟩ = some (.string ⟨#[]⟩) ∧ w4.cell? ⟨w.heap.size + 1, (us.length + j) * 3 + 2, none⟩ = some (.int .i64 0) := fun j hj => by
        have h := hK4.r.cells (us.length + j) (by omega)
        rw [roomF_room us 8 j hj] at h
        exact h
      obtain ⟨k0, k1', k2⟩ := hK4.k.cells
      have k1 : w4.cell? ⟨w.heap.size + 2, 1, none⟩ = some (.string ⟨#[]⟩) := k1'
      clear k1'
      clear hk3 hX3 hY3 hK3 m0 m1 m2 m3 m4 m5
      simp only [Exit.then]
      go_wp2_with fail
      go_loopw [13, 14] (fun st i wx => ∃ j : Nat, j ≤ 8 ∧ i = .int .i64 ((us.length + j : Nat) : Int) ∧ st = .bool true ∧ ∃ n, wx = w4.drewN n) (fun _ i _ => (us.length + 8 - intOf i).toNat)
      case atStart => exact ⟨0, by omega, rfl, rfl, 0, rfl⟩
      case round =>
        obtain ⟨j, hj, rfl, rfl, n4, rfl⟩ := hrel
        by_cases hj8 : j < 8
        · obtain ⟨x0, x1, x2⟩ := hcl j hj8
          obtain ⟨q, hq⟩ : ∃ q, q = us.length + j := ⟨_, rfl⟩
          rw [← hq] at x0 x1 x2 ⊢
          have i1 : q < us.length + 8 := by omega
          have i2 : (q : Int) < (us.length : Int) + 8 := by omega
          have HQ : Hid _ := hq
          clear hcl hq
          go_wp2_with fail
          go_quiet (fail)
          go_wp2_with fail
          go_roundw
          case rel => exact ⟨j + 1, by omega, by rw [HQ.out]; go_num, rfl, _, rfl⟩
          case measure => simp [intOf]; omega
        · obtain rfl : j = 8 := by omega
          have hK5 := hK4.drewN n4
          have hk5 := fun W hS hT => tdecP_any A B l W hS hT hTB (by omega)
          have hk6 := fun W => rdecP_all l W hl
          have hdl := dP_len l
          generalize dP l = D at hk5 hk6 hdl
          generalize dPX l = dx at hk5 hk6
          obtain ⟨nd, dd⟩ := D
          unfold prfV at hk5 hk6
          simp only at hk5 hk6 hdl
          have hkI := fun W va vb hva hvb => sameU_big dd va vb W hva hvb (by omega)
          generalize w4.drewN n4 = w5 at *
          clear hcl hK4 hv k0 k1 k2 hK hrow
          go_wp2_with fail
          refine (hk5 _ (hS.to (hK5.be.mono hBs)) (hT.to hK5.be hT.lt)).mono ?_
          rintro e w6 ⟨pp, rfl, hxr, hxg0, hb6⟩
          have hK6 := hK5.to hb6
          have hs5 := hK5.lt
          have hK6s := hK6.lt
          have hxg : ∀ g, pp = some ⟨g, 0, none⟩ → w.heap.size + 3 ≤ g ∧ g < w6.heap.size := fun g hg => by
            obtain ⟨h1, h2⟩ := hxg0 g hg
            exact ⟨by omega, h2⟩
          clear hb6 hK5 hxg0
          go_wp2_with fail
          have hbn := (Below.refl _ w6).alloc (Nat.le_refl _) (.cells #[.int .i64 nd.kind, .string (S nd.path), .string (S nd.value), .int .i64 nd.left, .int .i64 nd.right, .slice pp dd.length dd.length] 26)
          have hMx : PBlk _ w6.heap.size nd (.slice pp dd.length dd.length) := heap_alloc_new w6 (.cells #[.int .i64 nd.kind, .string (S nd.path), .string (S nd.value), .int .i64 nd.left, .int .i64 nd.right, .slice pp dd.length dd.length] 26)
          have hK7 := hK6.to hbn
          have hxr7 := hxr.to hbn
          have hs7 : w6.heap.size < (w6.alloc (.cells #[.int .i64 nd.kind, .string (S nd.path), .string (S nd.value), .int .i64 nd.left, .int .i64 nd.right, .slice pp dd.length dd.length] 26)).heap.size := by simp
          clear hK6 hxr hbn
          generalize hbx : w6.heap.size = bx at *
          generalize w6.alloc (.cells #[.int .i64 nd.kind, .string (S nd.path), .string (S nd.value), .int .i64 nd.left, .int .i64 nd.right, .slice pp dd.length dd.length] 26) = w7 at *
          refine (hk6 _).mono ?_
          rintro e w8 ⟨u, rfl, hO8, hb8⟩
          have hK8 := hK7.to hb8
          have hx8 := hMx.to hb8
          have hxr8 := hxr7.to hb8
          have hs8 := hb8.size
          clear hb8 hK7 hMx hxr7
          obtain ⟨pu, cu, rfl, _⟩ := hO8.urow
          have hbn := (Below.refl _ w8).alloc (Nat.le_refl _) (.cells #[.int .i64 nd.kind, .string (S nd.path), .string (S nd.value), .int .i64 nd.left, .int .i64 nd.right, .slice pu dd.length cu] 26)
          have hMy : PBlk _ w8.heap.size nd (.slice pu dd.length cu) := heap_alloc_new w8 (.cells #[.int .i64 nd.kind, .string (S nd.path), .string (S nd.value), .int .i64 nd.left, .int .i64 nd.right, .slice pu dd.length cu] 26)
          have hK9 := hK8.to hbn
          have hx9 := hx8.to hbn
          have hxr9 := hxr8.to hbn
          have hO9 := hO8.to hbn
          have hol9 : ∀ j, (Value.slice pu dd.length cu).ownBlock = some j → w7.heap.size ≤ j ∧ j < w8.heap.size := fun j hj => ⟨hO8.block j hj, hO8.lt j hj⟩
          have hs9 : w8.heap.size < (w8.alloc (.cells #[.int .i64 nd.kind, .string (S nd.path), .string (S nd.value), .int .i64 nd.left, .int .i64 nd.right, .slice pu dd.length cu] 26)).heap.size := by simp
          clear hK8 hx8 hxr8 hO8 hbn
          generalize hby : w8.heap.size = bY at *
          generalize hw9 : w8.alloc (.cells #[.int .i64 nd.kind, .string (S nd.path), .string (S nd.value), .int .i64 nd.left, .int .i64 nd.right, .slice pu dd.length cu] 26) = w9 at *
          obtain ⟨x0, x1, x2, x3, x4, x5⟩ := hx9.cells
          obtain ⟨y0, y1, y2, y3, y4, y5⟩ := hMy.cells
          go_wp2_with (rw [hby, hw9])
          refine (hkI _ _ _ hxr9.urow hO9.urow).mono ?_
          rintro e w' ⟨rfl, n9, rfl⟩
          have hKa : KpU w (w9.drewN n9) m (.slice p us.length cap) (us.length + 8) (roomF us 8) := hK9.drewN n9
          have hxa : PBlk (w9.drewN n9) bx nd (.slice pp dd.length dd.length) := hx9
          have hya : PBlk (w9.drewN n9) bY nd (.slice pu dd.length cu) := hMy
          have hxra : XU (w9.drewN n9) pp dd := hxr9
          have hOa : OwnU w7.heap.size (w9.drewN n9) (.slice pu dd.length cu) dd := hO9
          have hsa : bY < (w9.drewN n9).heap.size := hs9
          clear hK9 hx9 hMy hxr9 hO9 x0 x1 x2 x3 x4 x5 y0 y1 y2 y3 y4 y5 hs9 hw9
          generalize w9.drewN n9 = wa at *
          have hbn := (Below.refl _ wa).alloc (Nat.le_refl _) (.cells #[.int .i64 0, .slice none 0 0] 38)
          have hbk : (wa.alloc (.cells #[.int .i64 0, .slice none 0 0] 38)).heap[wa.heap.size]? = some (.cells #[.int .i64 0, .slice none 0 0] 38 (0, 0)) := heap_alloc_new wa _
          have hKb := hKa.to hbn
          have hxb := hxa.to hbn
          have hyb := hya.to hbn
          have hxrb := hxra.to hbn
          have hOb := hOa.to hbn
          have hsb : (wa.alloc (.cells #[.int .i64 0, .slice none 0 0] 38)).heap.size = wa.heap.size + 1 := by simp
          clear hKa hxa hya hxra hOa hbn
          generalize hbkn : wa.heap.size = bk at *
          generalize hwb : wa.alloc (.cells #[.int .i64 0, .slice none 0 0] 38) = wb at *
          obtain ⟨x0, x1, x2, x3, x4, x5⟩ := hxb.cells
          go_wp2_with (rw [hbkn, hwb])
          obtain ⟨gx, F0, hgx1, hgx2, hgx5, hgx3, hgx4⟩ : ∃ gx F, w.heap.size + 3 ≤ gx ∧ gx ≠ bk ∧ gx ≠ wb.heap.size ∧ (gx < bx ∨ bk < gx) ∧ ((pp = some ⟨gx, 0, none⟩ ∧ UBlk wb gx dd.length F) ∨ (pp = none ∧ dd.length = 0)) := by
            rcases hxrb with ⟨g, F, h0, h, _⟩ | ⟨h1, h2⟩
            · obtain ⟨h1, h2⟩ := hxg g h0
              exact ⟨g, F, h1, by omega, by omega, Or.inl h2, Or.inl ⟨h0, h⟩⟩
            · exact ⟨bk + 2, fun _ => mU, by have := hKb.lt; omega, by omega, by omega, Or.inr (by omega), Or.inr ⟨h1, by rw [h2]; rfl⟩⟩
          refine (bups_any bk gx dd.length F0 pp wb hbk hgx2 hgx5 hgx4 (by omega)).mono ?_
          rintro e wc ⟨rfl, ⟨vs, uu, hvs, hBk⟩, hTc⟩
          have hsc := hTc.size
          have hKc := hKb.touch hTc (by have := hK6s; omega) hgx1
          have hxc := hxb.keep (hTc.block bx hxb.lt (by omega) (by omega))
          have hyc := hyb.keep (hTc.block bY hyb.lt (by omega) (by omega))
          have hOc : OwnU w7.heap.size wc (.slice pu dd.length cu) dd := hOb.keepB fun j hj => by
            obtain ⟨h1, h2⟩ := hol9 j hj
            exact hTc.block j (by omega) (by omega) (by omega)
          clear hKb hxb hyb hxrb hOb hTc hbk hgx4 hwb x0 x1 x2 x3 x4 x5
          go_wp2_with fail
          refine (hk5 _ (hS.to (hKc.be.mono hBs)) (hT.to hKc.be hT.lt)).mono ?_
          rintro e wd ⟨pz, rfl, hzr, _, hbd⟩
          have hKd := hKc.to hbd
          have hxd := hxc.to hbd
          have hyd := hyc.to hbd
          have hOd := hOc.to hbd
          have hBd := hBk.below hbd rfl
          have hsd := hbd.size
          clear hbd hKc hxc hyc hOc hBk hk5 hk6
          have hbn := (Below.refl _ wd).alloc (Nat.le_refl _) (.cells #[.int .i64 nd.kind, .string (S nd.path), .string (S nd.value), .int .i64 nd.left, .int .i64 nd.right, .slice pz dd.length dd.length] 26)
          have hMz : PBlk _ wd.heap.size nd (.slice pz dd.length dd.length) := heap_alloc_new wd (.cells #[.int .i64 nd.kind, .string (S nd.path), .string (S nd.value), .int .i64 nd.left, .int .i64 nd.right, .slice pz dd.length dd.length] 26)
          have hKe := hKd.to hbn
          have hxe := hxd.to hbn
          have hye := hyd.to hbn
          have hOe := hOd.to hbn
          have hBe := hBd.below hbn rfl
          have hze := hzr.to hbn
          have hse := hbn.size
          clear hKd hxd hyd hOd hBd hzr hbn
          generalize hbz : wd.heap.size = bz at *
          generalize hwe : wd.alloc (.cells #[.int .i64 nd.kind, .string (S nd.path), .string (S nd.value), .int .i64 nd.left, .int .i64 nd.right, .slice pz dd.length dd.length] 26) = we at *
          obtain ⟨y0, y1, y2, y3, y4, y5⟩ := hye.cells
          obtain ⟨z0, z1, z2, z3, z4, z5⟩ := hMz.cells
          go_wp2_with (rw [hbz, hwe])
          refine (hkI _ _ _ hze.urow hOe.urow).mono ?_
          rintro e w' ⟨rfl, n10, rfl⟩
          have hKf : KpU w (we.drewN n10) m (.slice p us.length cap) (us.length + 8) (roomF us 8) := hKe.drewN n10
          have hxf : PBlk (we.drewN n10) bx nd (.slice pp dd.length dd.length) := hxe
          have hyf : PBlk (we.drewN n10) bY nd (.slice pu dd.length cu) := hye
          have hzf : PBlk (we.drewN n10) bz nd (.slice pz dd.length dd.length) := hMz
          have hBf : BkU bk (wb.heap.size + 1) (dd.length + 4) (we.drewN n10) vs uu := ⟨hBe.blk, hBe.row, hBe.full⟩
          clear hKe hxe hye hMz hBe hze hOe y0 y1 y2 y3 y4 y5 z0 z1 z2 z3 z4 z5 hwe hkI hol9
          generalize we.drewN n10 = wf at *
          go_wp2_with fail
          refine (stillU_any bk (wb.heap.size + 1) (dd.length + 4) (by omega) vs uu wf hBf (by omega) (by omega)).mono ?_
          rintro e wg ⟨rfl, hbg⟩
          have hKg := hKf.to hbg
          have hxg2 := hxf.to hbg
          have hyg := hyf.to hbg
          have hzg := hzf.to hbg
          clear hKf hxf hyf hzf hBf hbg
          have hkL := tencP_ok ⟨empty, []⟩ (.slice none 0 0) [1, 2, 0] wg (urow_nil wg) (by decide)
          unfold prfV empty at hkL
          simp only at hkL
          go_wp2_with fail
          refine hkL.mono ?_
          rintro e wi ⟨rfl, hbi⟩
          have hKi := hKg.to hbi
          obtain ⟨x0, x1, x2, x3, x4, x5⟩ := (hxg2.to hbi).cells
          obtain ⟨y0, y1, y2, y3, y4, y5⟩ := (hyg.to hbi).cells
          obtain ⟨z0, z1, z2, z3, z4, z5⟩ := (hzg.to hbi).cells
          have hs2 : (S [1, 2, 0]).toList = [1, 2, 0] := by rw [Lib.toList_data, S_list]
          have hbe := hKi.be
          clear hkL hbi hKi hKg hxg2 hyg hzg hS hT
          go_wp2_with fail
          go_ret
          exact ⟨rfl, hbe⟩
end Go.Proofs.YtddcbeeldjjmeaaGreatDoor.Tw
