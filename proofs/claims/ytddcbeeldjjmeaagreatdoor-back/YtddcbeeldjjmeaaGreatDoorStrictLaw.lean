/- The law Strict: whatever bytes are read, they are what is written of what they were read as. -/
import Derived.Test.YtddcbeeldjjmeaaGreatDoorPrf3
import Derived.Test.YtddcbeeldjjmeaaGreatDoorDecP4
import Derived.Test.YtddcbeeldjjmeaaGreatDoorEncM
import Derived.Test.YtddcbeeldjjmeaaGreatDoorDecM5
namespace Go.Proofs.YtddcbeeldjjmeaaGreatDoor.Tw
open Go.RowKit Go.Proofs.YtddcbeeldjjmeaaGreatDoor.Pu Go.Deep
set_option linter.unusedVariables false
set_option linter.unusedSimpArgs false

set_option maxHeartbeats 400000 in
theorem tencP_ok (p : Pf) (v : Value) (b : List UInt8) (w : World) (hv : URow w v p.ups) (h : encP p = some b) :
    Calls Tryz.prog 11 #[prfV p v] w fun e w' => e = .returned (.tuple #[.string (S b), .int .i64 0]) ∧ Below w.heap.size w w' := by
  have hk : ∀ o, Calls Tryz.prog 43 #[prfV p v] (w.alloc o) fun e w' => e = .returned (.tuple #[.string (S b), .nilIface]) ∧ Below (w.alloc o).heap.size (w.alloc o) w' := fun o => by
    unfold encP at h
    cases hn : encN p.bottom with
    | none => rw [hn] at h; cases h
    | some c =>
      rw [hn] at h
      dsimp only at h
      by_cases hk : okUs p.ups = true
      · rw [if_pos hk] at h; cases h
        exact wencP_ok p v c _ (hv.to ((Below.refl _ w).alloc (Nat.le_refl _) _)) hn hk
      · rw [if_neg hk] at h; cases h
  clear h hv
  unfold prfV at hk ⊢
  go_enter Tryz.func11, Tryz.ntmps11
  go_wp2_with fail
  refine (hk _).mono ?_
  rintro e w1 ⟨rfl, hb1⟩
  have hbx := ((Below.refl _ w).alloc (Nat.le_refl _) _).trans (hb1.mono (by simp))
  clear hb1 hk
  go_wp2_with fail
  refine (errno_nil _).mono ?_
  rintro e w' ⟨rfl, rfl⟩
  go_wp2
  go_ret2
  exact ⟨rfl, hbx⟩

/-- A row that came out of a reader. -/
theorem UBlk.urow {w : World} {g : Nat} {us : List Us} {F : Nat → Us} (h : UBlk w g us.length F) (hF : ∀ i (h : i < us.length), F i = us[i]) (cap : Nat) : URow w (.slice (some ⟨g, 0, none⟩) us.length cap) us := by
  refine ⟨_, cap, rfl, fun i hi => ⟨_, rfl, ?_⟩⟩
  have ea : (⟨g, 0, none⟩ : Addr).add (i * 3) = ⟨g, i * 3, none⟩ := by
    unfold Addr.add
    by_cases h0 : i * 3 = 0
    · rw [if_pos h0, h0]
    · rw [if_neg h0]; simp
  rw [ea, ← hF i hi]
  exact h.cells i hi
theorem urow_nil (w : World) : URow w (.slice none 0 0) [] := ⟨none, 0, rfl, fun i hi => absurd hi (Nat.not_lt_zero i)⟩
theorem irow_nil (w : World) : IRow w (.slice none 0 0) [] := ⟨none, 0, rfl, fun i hi => absurd hi (Nat.not_lt_zero i)⟩

theorem decN_2 : decN [2] = some empty := by rfl
theorem decN_3 : decN [3] = none := by rfl
theorem encN_zero : encN zeroN = some [0, 0, 0] := by rfl
theorem encP_zero : encP ⟨zeroN, []⟩ = some [3, 0, 0, 0, 0] := by rfl

/-- A node read, and written again. -/
theorem stepN (A : Nat → Addr) (B : Nat) (l : List UInt8) (hl : l.length ≤ 9223372036854775807) :
    ∃ (m : Nd) (e : Int) (s : List UInt8) (f : Int), ((e = 0 ∧ s = l ∧ f = 0) ∨ (e = 4 ∧ m = zeroN)) ∧
      (∀ w, Sents A B w → Calls Tryz.prog 20 #[.string (S l)] w fun e' w' => e' = .returned (.tuple #[nodeV m, .int .i64 e]) ∧ Below w.heap.size w w') ∧
      ∀ w, Calls Tryz.prog 19 #[nodeV m] w fun e' w' => e' = .returned (.tuple #[.string (S s), .int .i64 f]) ∧ Below w.heap.size w w' := by
  cases h : decN l with
  | some m => exact ⟨m, 0, l, 0, Or.inl ⟨rfl, rfl, rfl⟩, fun w _ => dec_ok A l m w h hl, fun w => tenc_ok m l w (decN_sound m l h)⟩
  | none => exact ⟨zeroN, 4, [0, 0, 0], 0, Or.inr ⟨rfl, rfl⟩, fun w hS => dec_bad A B l w hS h hl, fun w => tenc_ok zeroN _ w encN_zero⟩

/-- A proof read, and written again. -/
theorem stepP (A : Nat → Addr) (B : Nat) (hTB : 23 < B) (l : List UInt8) (hl : l.length ≤ 9223372036854775807) :
    ∃ (m : Nd) (e : Int) (s : List UInt8) (f : Int), ((e = 0 ∧ s = l ∧ f = 0) ∨ (e = 4 ∧ m = zeroN)) ∧
      (∀ w, Sents A B w → Tab w → Calls Tryz.prog 14 #[.string (S l)] w fun e' w' => ∃ p n cap, e' = .returned (.tuple #[.agg #[.int .i64 m.kind, .string (S m.path), .string (S m.value), .int .i64 m.left, .int .i64 m.right, .slice p n cap], .int .i64 e]) ∧ (e = 4 → n = 0) ∧ Below w.heap.size w w' ∧
        ∀ W, Below w'.heap.size w' W → Calls Tryz.prog 11 #[.agg #[.int .i64 m.kind, .string (S m.path), .string (S m.value), .int .i64 m.left, .int .i64 m.right, .slice p n cap]] W fun e' W' => e' = .returned (.tuple #[.string (S s), .int .i64 f]) ∧ Below W.heap.size W W') := by
  cases h : decP l with
  | some p =>
    refine ⟨p.bottom, 0, l, 0, Or.inl ⟨rfl, rfl, rfl⟩, fun w _ _ => (tdecP_ok A l p w h hl).mono ?_⟩
    rintro e' w' ⟨g, F, rfl, hg, hrow, hF, hb⟩
    refine ⟨_, _, _, rfl, fun e => absurd e (by decide), hb, fun W hW => ?_⟩
    have hu := (hrow.urow hF p.ups.length).to hW
    exact tencP_ok p _ l W hu (decP_sound p l h)
  | none =>
    refine ⟨zeroN, 4, [3, 0, 0, 0, 0], 0, Or.inr ⟨rfl, rfl⟩, fun w hS hT => (tdecP_bad A B l w hS hT hTB h hl).mono ?_⟩
    rintro e' w' ⟨rfl, hb⟩
    refine ⟨none, 0, 0, rfl, fun _ => rfl, hb, fun W hW => ?_⟩
    exact tencP_ok ⟨zeroN, []⟩ (.slice none 0 0) _ W (urow_nil W) encP_zero

/-- A manifest read, and written again. -/
theorem stepM (A : Nat → Addr) (B : Nat) (hTB : 23 < B) (l : List UInt8) (hl : l.length ≤ 9223372036854775807) :
    ∃ (wd rt sz tt : Int) (e : Int) (s : List UInt8) (f : Int), ((e = 0 ∧ s = l ∧ f = 0) ∨ (e = 4 ∧ wd = 0)) ∧
      (∀ w, Sents A B w → Tab w → Calls Tryz.prog 25 #[.string (S l)] w fun e' w' => ∃ p n cap, e' = .returned (.tuple #[.agg #[.int .i64 wd, .int .i64 rt, .int .i64 sz, .int .i64 tt, .slice p n cap], .int .i64 e]) ∧ (e = 4 → n = 0) ∧ Below w.heap.size w w' ∧
        ∀ W, Sents A B W → Tab W → Below w'.heap.size w' W → Calls Tryz.prog 24 #[.agg #[.int .i64 wd, .int .i64 rt, .int .i64 sz, .int .i64 tt, .slice p n cap]] W fun e' W' => e' = .returned (.tuple #[.string (S s), .int .i64 f]) ∧ Below W.heap.size W W') := by
  cases h : decM l with
  | some m =>
    refine ⟨m.width, m.root, m.size, m.total, 0, l, 0, Or.inl ⟨rfl, rfl, rfl⟩, fun w _ _ => (tdecM_ok l m w h hl).mono ?_⟩
    rintro e' w' ⟨g, rfl, hg, hrow, hb⟩
    refine ⟨_, _, _, rfl, fun e => absurd e (by decide), hb, fun W _ _ hW => ?_⟩
    exact tencM_ok m _ l W ((hrow.irow m.digests.length).to hW) (decM_sound m l h)
  | none =>
    refine ⟨0, 0, 0, 0, 4, encMB ⟨0, 0, 0, 0, []⟩, encME ⟨0, 0, 0, 0, []⟩, Or.inr ⟨rfl, rfl⟩, fun w hS hT => (tdecM_bad A B l w hS hT hTB h hl).mono ?_⟩
    rintro e' w' ⟨rfl, hb⟩
    refine ⟨none, 0, 0, rfl, fun _ => rfl, hb, fun W hS hT hW => ?_⟩
    exact tencM_any A B ⟨0, 0, 0, 0, []⟩ (.slice none 0 0) W hS hT (irow_nil W)

set_option maxRecDepth 20000 in
set_option maxHeartbeats 20000000 in
theorem strict_any (A : Nat → Addr) (B : Nat) (l : List UInt8) (w : World) (hS : Sents A B w) (hT : Tab w) (hTB : 23 < B) (hl : l.length ≤ 9223372036854775807) :
    Calls Tryz.prog 5 #[.string (S l)] w fun e w' => e = .returned (.bool true) ∧ Below w.heap.size w w' := by
  obtain ⟨m1, e1, s1, f1, hc1, hk1, hk2⟩ := stepN A B l hl
  obtain ⟨m2, e2, s2, f2, hc2, hk3⟩ := stepP A B hTB l hl
  obtain ⟨wd, rt, sz, tt, e3, s3, f3, hc3, hk4⟩ := stepM A B hTB l hl
  have hk5 := fun w => dec_ok A [2] empty w decN_2 (by simp)
  have hk6 := fun w hS => dec_bad A B [3] w hS decN_3 (by simp)
  have hBs := hS.size
  clear hl
  unfold nodeV at hk1 hk2 hk5 hk6
  unfold empty at hk5
  rcases hc1 with ⟨rfl, rfl, rfl⟩ | ⟨rfl, rfl⟩ <;> rcases hc2 with ⟨rfl, rfl, rfl⟩ | ⟨rfl, rfl⟩ <;> rcases hc3 with ⟨rfl, rfl, rfl⟩ | ⟨rfl, rfl⟩
  all_goals
    have hse : (S []).toList = [] := by rw [Lib.toList_data, S_list]
    try unfold zeroN at hk1 hk2
    try unfold zeroN at hk3
    unfold zeroN at hk6
    dsimp only at hk1 hk2 hk3 hk5 hk6
    go_enter Tryz.func5, Tryz.ntmps5
    go_wp2_with fail
    refine (hk1 _ hS).mono ?_
    rintro e w1 ⟨rfl, hb1⟩
    go_wp2_with fail
    refine (hk2 _).mono ?_
    rintro e w2 ⟨rfl, hb2⟩
    have hq1 := (C5.new w1 _ _ _ _ _ 23).below hb2 (by simp)
    have hb12 := (hb1.alloc hb1.size _).trans (hb2.mono (by simp only [World.size_alloc]; have := hb1.size; omega))
    have hz1 := hb12.size
    clear hb1 hb2 hk1 hk2
    obtain ⟨q10, q11, q12, q13, q14⟩ := hq1
    go_wp2_with fail
    refine (hk3 _ (hS.to (hb12.mono hBs)) (hT.to hb12 hT.lt)).mono ?_
    rintro e w3 ⟨p2, n2, cap2, rfl, hn2, hb3, hW2⟩
    try simp at hn2
    try subst hn2
    have hb13 := hb12.trans (hb3.mono hz1)
    have hz3 := hb13.size
    clear hb3 hb12 hk3 q10 q11 q12 q13 q14
    go_wp2_with fail
    refine (hW2 _ ((Below.refl _ w3).alloc (Nat.le_refl _) _)).mono ?_
    rintro e w4 ⟨rfl, hb4⟩
    have hq2 := (C6.new w3 _ _ _ _ _ _ 26).below hb4 (by simp)
    have hb14 := (hb13.alloc hz3 _).trans (hb4.mono (by simp only [World.size_alloc]; omega))
    have hz4 := hb14.size
    clear hb4 hb13 hW2
    obtain ⟨q20, q21, q22, q23, q24, q25⟩ := hq2
    go_wp2_with fail
    refine (hk4 _ (hS.to (hb14.mono hBs)) (hT.to hb14 hT.lt)).mono ?_
    rintro e w5 ⟨p3, n3, cap3, rfl, hn3, hb5, hW3⟩
    try simp at hn3
    try subst hn3
    have hb15 := hb14.trans (hb5.mono hz4)
    have hz5 := hb15.size
    have hba := fun o => hb15.alloc hz5 o
    clear hb5 hb14 hk4 q20 q21 q22 q23 q24 q25
    go_wp2_with fail
    refine (hW3 _ (hS.to ((hba _).mono hBs)) (hT.to (hba _) hT.lt) ((Below.refl _ w5).alloc (Nat.le_refl _) _)).mono ?_
    rintro e w6 ⟨rfl, hb6⟩
    have hq3 := (C5.new w5 _ _ _ _ _ 49).below hb6 (by simp)
    have hb16 := (hba _).trans (hb6.mono (by simp only [World.size_alloc]; omega))
    have hz6 := hb16.size
    clear hb6 hb15 hba hW3
    obtain ⟨q30, q31, q32, q33, q34⟩ := hq3
    go_wp2_with fail
    refine (hk5 _).mono ?_
    rintro e w7 ⟨rfl, hb7⟩
    have hb17 := hb16.trans (hb7.mono hz6)
    have hz7 := hb17.size
    have hbb := fun o => hb17.alloc hz7 o
    clear hb7 hb16 hk5 q30 q31 q32 q33 q34
    go_wp2_with fail
    refine (hk6 _ (hS.to ((hbb _).mono hBs))).mono ?_
    rintro e w8 ⟨rfl, hb8⟩
    have hq4 := (C5.new w7 _ _ _ _ _ 23).below hb8 (by simp)
    have hb18 := (hbb _).trans (hb8.mono (by simp only [World.size_alloc]; omega))
    have hz8 := hb18.size
    have hz78 : w7.heap.size < w8.heap.size := by have := hb8.size; simp at this; omega
    clear hb8 hb17 hbb hk6
    obtain ⟨q40, q41, q42, q43, q44⟩ := hq4
    go_wp2
    go_ret
    exact ⟨rfl, hb18.alloc hz8 _⟩
end Go.Proofs.YtddcbeeldjjmeaaGreatDoor.Tw
