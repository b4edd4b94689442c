/- 'make' and 'copy' of steps into a new row. -/
import Derived.Test.YtddcbeeldjjmeaaGreatDoorBooksV
import Derived.Laws.CopyRow
import Derived.Laws.IdiomCopy
namespace Go.Proofs.YtddcbeeldjjmeaaGreatDoor.Tw
open Go.RowKit Go.Proofs.YtddcbeeldjjmeaaGreatDoor.Pu
set_option linter.unusedVariables false
set_option linter.unusedSimpArgs false

def m77 : Us := ⟨77, [], 0⟩
/-- The row of the law's own: the list, so many marks, the room. -/
def roomF (us : List Us) (j : Nat) (i : Nat) : Us := if i < us.length then us.getD i zeroU else if i < us.length + j then m77 else zeroU

theorem upCs_cell (us : List Us) (F : Nat → Us) (hF : ∀ i (h : i < us.length), F i = us[i]) : ∀ j, j < us.length * 3 → (upCs us)[j]? = some (cellU F j) := by
  intro j hj
  obtain ⟨q, r, hr, rfl⟩ : ∃ q r, r < 3 ∧ j = q * 3 + r := ⟨j / 3, j % 3, by omega, by omega⟩
  have hq : q < us.length := by omega
  obtain ⟨a, b, c⟩ := upCs_get us q hq
  rw [← hF q hq] at a b c
  unfold cellU
  have h3 : r = 0 ∨ r = 1 ∨ r = 2 := by omega
  rcases h3 with rfl | rfl | rfl
  · rw [if_pos (by omega), show (q * 3 + 0) / 3 = q by omega]; exact a
  · rw [if_neg (by omega), if_pos (by omega), show (q * 3 + 1) / 3 = q by omega]; exact b
  · rw [if_neg (by omega), if_neg (by omega), show (q * 3 + 2) / 3 = q by omega]; exact c

theorem roomF_pre (us : List Us) (j : Nat) : ∀ i (h : i < us.length), roomF us j i = us[i] := fun i h => by
  unfold roomF
  rw [if_pos h]
  simp [List.getD, h]
theorem roomF_set (us : List Us) (j : Nat) (i : Nat) : (if i = us.length + j then m77 else roomF us j i) = roomF us (j + 1) i := by
  unfold roomF
  by_cases h1 : i < us.length
  · rw [if_neg (by omega), if_pos h1, if_pos h1]
  · by_cases h2 : i = us.length + j
    · rw [if_pos h2, if_neg h1, if_pos (by omega)]
    · rw [if_neg h2, if_neg h1, if_neg h1]
      by_cases h3 : i < us.length + j
      · rw [if_pos h3, if_pos (by omega)]
      · rw [if_neg h3, if_neg (by omega)]
theorem roomF_room (us : List Us) (j k : Nat) (h : k < j) : roomF us j (us.length + k) = m77 := by
  unfold roomF
  rw [if_neg (by omega), if_pos (by omega)]

/-- The front of a row reads as the list. -/
theorem UBlk.pre {w : World} {g n : Nat} {us : List Us} {F : Nat → Us} (h : UBlk w g n F) (hn : us.length ≤ n) (hF : ∀ i (h : i < us.length), F i = us[i]) (cap : Nat) : URow w (.slice (some ⟨g, 0, none⟩) us.length cap) us := by
  refine ⟨_, cap, rfl, fun i hi => ⟨_, rfl, ?_⟩⟩
  have ea : (⟨g, 0, none⟩ : Addr).add (i * 3) = ⟨g, i * 3, none⟩ := by
    unfold Addr.add
    by_cases h0 : i * 3 = 0
    · rw [if_pos h0, h0]
    · rw [if_neg h0]; simp
  rw [ea, ← hF i hi]
  exact h.cells i (by omega)

theorem make_ups9 (n : Nat) (hn : n ≤ 1048592) (M : Array Value) (hM : M = madeCells (Value.agg #[.int .i64 0, .string ⟨#[]⟩, .int .i64 0]).cells (n * 3)) : ∀ W : World, (Instr.makeSlice 24 (.int .i64 (n : Int)) (.int .i64 (n : Int))).run Tryz.prog W = .ok (.slice (some ⟨W.heap.size, 0, none⟩) n n) (W.alloc (.cells M 28)) := fun W => by
  obtain ⟨i0, hi, hz0, hz1, hz2⟩ := info_parts uinfo
  have h := run_make (P := Tryz.prog) W 24 28 i0 (.agg #[.int .i64 0, .string ⟨#[]⟩, .int .i64 0]) Tryz.underlying24 hi hz0 .i64 .i64 (n : Int) (n : Int) (by omega) (by omega) (by rw [hz2]; omega) (by omega)
  rw [hz1, Int.toNat_natCast, ← hM] at h
  exact h

theorem add_add (a : Addr) (k r : Nat) (hr : 0 < r) : a.add (k + r) = ⟨(a.add k).block, (a.add k).off + r, none⟩ := by
  unfold Addr.add
  rw [if_neg (by omega)]
  by_cases h0 : k = 0
  · rw [if_pos h0, h0]; simp
  · rw [if_neg h0]; simp; omega
/-- 'copy' of elements of three cells. -/
theorem run_copy3 {P : Program} (w : World) (dT sT ty elem : TypeId) (g o dLen dCap : Nat) (a : Addr) (sLen sCap : Nat) (cur : Array Value) (t : TypeId) (cs : List Value)
    (hu : P.underlying dT = some (.slice elem)) (hs : (P.info? elem).map (·.size) = some 3)
    (hg : w.heap[g]? = some (.cells cur t (0, 0))) (hn : cs.length = Nat.min sLen dLen * 3)
    (hsrc : ∀ j v, cs[j]? = some v → w.cell? (a.add j) = some v) (hfit : o + cs.length ≤ cur.size) (h1 : ∀ v ∈ cs, v.oneCell' = true) :
    (Builtin.copy_ #[dT, sT] ty #[.slice (some ⟨g, o, none⟩) dLen dCap, .slice (some a) sLen sCap]).run P w =
      .ok (goInt (Nat.min sLen dLen)) (w.setRow g (cur.toList.take o ++ cs ++ cur.toList.drop (o + cs.length)).toArray) := by
  have hl := run_loadCells_list (P := P) w a cs hsrc
  have hst := run_storeCells_at P g o t cs 0 cur w hg (by simpa using hfit) h1
  cases hq : P.info? elem with
  | none => simp [hq] at hs
  | some i =>
    have hi : i.size = 3 := by simpa [hq] using hs
    simp [Builtin.copy_, run_underlying hu, Builtin.lenOf, Builtin.firstCells, sizeOf, typeInfo, hq, hi, ← hn, hl, hst]
theorem run_copy3_none {P : Program} (w : World) (dT sT ty elem : TypeId) (d a : Option Addr) (dLen dCap sLen sCap : Nat) (hu : P.underlying dT = some (.slice elem)) (hs : (P.info? elem).map (·.size) = some 3) (hn : Nat.min sLen dLen = 0) :
    (Builtin.copy_ #[dT, sT] ty #[.slice d dLen dCap, .slice a sLen sCap]).run P w = .ok (goInt 0) w := by
  cases hq : P.info? elem with
  | none => simp [hq] at hs
  | some i =>
    have hl : ∀ (x : Addr), (loadCells x 0).run P w = .ok #[] w := fun x => by simpa using run_loadCells_list (P := P) w x [] (by simp)
    cases d <;> cases a <;> simp [Builtin.copy_, run_underlying hu, Builtin.lenOf, Builtin.firstCells, sizeOf, typeInfo, hq, hn, storeCells, hl]

set_option maxRecDepth 20000 in
theorem copyU (w : World) (g k : Nat) (us : List Us) (p : Option Addr) (cap : Nat) (hrow : UBlk w g (us.length + k) (fun _ => zeroU)) (hv : URow w (.slice p us.length cap) us) :
    ∃ X : Array Value, (∀ ty, (Builtin.copy_ #[24, 24] ty #[.slice (some ⟨g, 0, none⟩) (us.length + k) (us.length + k), .slice p us.length cap]).run Tryz.prog w = .ok (.int .i64 us.length) (w.setRow g X)) ∧ UBlk (w.setRow g X) g (us.length + k) (roomF us 0) := by
  have hs : (Tryz.prog.info? 28).map (·.size) = some 3 := by
    obtain ⟨i0, hi, _, h1, _⟩ := info_parts uinfo
    rw [hi]; simpa using h1
  have hrow' := hrow
  obtain ⟨c, hc, hcs, hcc⟩ := hrow
  rcases Nat.eq_zero_or_pos us.length with h0 | h0
  · obtain rfl := List.length_eq_zero_iff.1 h0
    refine ⟨c, fun ty => ?_, ?_⟩
    · rw [setRow_self w g c 28 (0, 0) hc]
      exact run_copy3_none (P := Tryz.prog) w 24 24 ty 28 _ p _ _ 0 cap Tryz.underlying24 hs (by simp)
    · rw [setRow_self w g c 28 (0, 0) hc]
      refine hrow'.same fun i _ => ?_
      unfold roomF
      rw [if_neg (by simp), if_neg (by simp)]
  · obtain ⟨p', cap', e, hx⟩ := hv
    obtain ⟨rfl, _⟩ : p = p' ∧ cap = cap' := by simpa using e
    obtain ⟨a, rfl, _⟩ := hx 0 h0
    have hul := upCs_len us
    refine ⟨(c.toList.take 0 ++ upCs us ++ c.toList.drop (0 + (upCs us).length)).toArray, fun ty => ?_, ?_⟩
    · have h := run_copy3 (P := Tryz.prog) w 24 24 ty 28 g 0 (us.length + k) (us.length + k) a us.length cap c 28 (upCs us) Tryz.underlying24 hs hc (by rw [hul, show Nat.min us.length (us.length + k) = us.length from Nat.min_eq_left (by omega)]) (fun j v hj => by
        have hjl : j < us.length * 3 := by
          by_cases hh : j < us.length * 3
          · exact hh
          · rw [List.getElem?_eq_none (by omega)] at hj; cases hj
        obtain ⟨q, r, hr, rfl⟩ : ∃ q r, r < 3 ∧ j = q * 3 + r := ⟨j / 3, j % 3, by omega, by omega⟩
        have hq : q < us.length := by omega
        obtain ⟨a', e', x0, x1, x2⟩ := hx q hq
        cases e'
        obtain ⟨y0, y1, y2⟩ := upCs_get us q hq
        have eb : (a.add (q * 3)).block = a.block := by unfold Addr.add; split <;> rfl
        have h3 : r = 0 ∨ r = 1 ∨ r = 2 := by omega
        rcases h3 with rfl | rfl | rfl
        · have : v = .int .i64 us[q].side := by have := hj.symm.trans y0; simpa using this
          rw [this]; exact x0
        · have : v = .string (S us[q].path) := by have := hj.symm.trans y1; simpa using this
          rw [this, ← x1, add_add a (q * 3) 1 (by omega)]
        · have : v = .int .i64 us[q].other := by have := hj.symm.trans y2; simpa using this
          rw [this, ← x2, add_add a (q * 3) 2 (by omega)]) (by rw [hul]; omega) (fun v hv => by
          unfold upCs at hv
          obtain ⟨l, hl, hv2⟩ := List.mem_flatten.1 hv
          obtain ⟨u, _, rfl⟩ := List.mem_map.1 hl
          simp [upC] at hv2
          rcases hv2 with rfl | rfl | rfl <;> rfl)
      rw [h, show Nat.min us.length (us.length + k) = us.length from Nat.min_eq_left (by omega)]
      rfl
    · refine ⟨_, setRow_heap _ _ _ _ _ _ hc, by simp; omega, fun i hi => ?_⟩
      by_cases hil : i < us.length * 3
      · have h := upCs_cell us (roomF us 0) (roomF_pre us 0) i hil
        simp only [List.take_zero, List.nil_append, List.getElem?_toArray, Nat.zero_add]
        rw [List.getElem?_append_left (by omega)]
        exact h
      · simp only [List.take_zero, List.nil_append, List.getElem?_toArray, Nat.zero_add]
        rw [List.getElem?_append_right (by omega), List.getElem?_drop, Array.getElem?_toList, show (upCs us).length + (i - (upCs us).length) = i by omega, hcc i hi]
        congr 1
        unfold cellU roomF
        rw [if_neg (show ¬ i / 3 < us.length by omega), if_neg (show ¬ i / 3 < us.length + 0 by omega)]
end Go.Proofs.YtddcbeeldjjmeaaGreatDoor.Tw
