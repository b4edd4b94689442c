/- Lists that came out, marked by their owner: steps. -/
import Derived.Test.YtddcbeeldjjmeaaGreatDoorOwnUp
import Derived.Test.YtddcbeeldjjmeaaGreatDoorDecP2
import Derived.Deep.AppendLies
import Derived.Deep.RegionLaw
import Derived.ArgAppend
import Derived.Deep.DeepAppendRoom
import Derived.Lib.JoinLaws
namespace Go.Proofs.YtddcbeeldjjmeaaGreatDoor.Tw
open Go.RowKit Go.Proofs.YtddcbeeldjjmeaaGreatDoor.Pu
set_option linter.unusedVariables false
set_option linter.unusedSimpArgs false

/-- The mark of the first list. -/
def mU : Us := ⟨-1, [], 0⟩
theorem upCs_mark (n : Nat) : ∀ j, j < n * 3 → (upCs (List.replicate n mU))[j]? = some (cellU (fun _ => mU) j) := by
  intro j hj
  obtain ⟨q, r, hr, rfl⟩ : ∃ q r, r < 3 ∧ j = q * 3 + r := ⟨j / 3, j % 3, by omega, by omega⟩
  have hq : q < (List.replicate n mU).length := by rw [List.length_replicate]; omega
  obtain ⟨a, b, c⟩ := upCs_get (List.replicate n mU) q hq
  rw [List.getElem_replicate] at a b c
  unfold cellU
  have h3 : r = 0 ∨ r = 1 ∨ r = 2 := by omega
  rcases h3 with rfl | rfl | rfl
  · rw [if_pos (by omega)]; exact a
  · rw [if_neg (by omega), if_pos (by omega)]; exact b
  · rw [if_neg (by omega), if_neg (by omega)]; exact c
theorem upCs_repl (n : Nat) : upCs (List.replicate n mU) ++ upC mU = upCs (List.replicate (n + 1) mU) := by rw [← upCs_snoc, List.replicate_succ']

/-- A list full of one mark. -/
def UFull (W : World) (N : Nat) (v : Value) : Prop := ∃ p n cap, v = .slice p n cap ∧ n ≤ N ∧ (n = 0 ∨ ∃ (g : Nat) (cs : Array Value) (fz : Nat × Nat), p = some ⟨g, 0, none⟩ ∧ W.heap[g]? = some (Obj.cells cs 28 fz) ∧ ∀ j, j < n * 3 → cs[j]? = some (cellU (fun _ => mU) j))
theorem UFull.to {W W' : World} {N N' : Nat} {v : Value} (h : UFull W N v) (hN : N ≤ N') (k : ∀ (g : Nat) (cs : Array Value) (fz : Nat × Nat), W.heap[g]? = some (Obj.cells cs 28 fz) → W'.heap[g]? = W.heap[g]? ∨ ∃ cs' fz', W'.heap[g]? = some (Obj.cells cs' 28 fz') ∧ ∀ j, j < N * 3 → cs'[j]? = some (cellU (fun _ => mU) j)) : UFull W' N' v := by
  obtain ⟨p, n, cap, rfl, hn, h0 | ⟨g, cs, fz, hp, hg, hc⟩⟩ := h
  · exact ⟨p, n, cap, rfl, by omega, Or.inl h0⟩
  · rcases k g cs fz hg with e | ⟨cs', fz', e, hc'⟩
    · exact ⟨p, n, cap, rfl, by omega, Or.inr ⟨g, cs, fz, hp, e.trans hg, hc⟩⟩
    · exact ⟨p, n, cap, rfl, by omega, Or.inr ⟨g, cs', fz', hp, e, fun j hj => hc' j (by omega)⟩⟩
/-- What a call may touch of old memory: two blocks. -/
structure TouchU (bk gx : Nat) (w w' : World) : Prop where
  os : w'.os = w.os
  tape : w'.tape = w.tape
  output : w'.output = w.output
  size : w.heap.size ≤ w'.heap.size
  block : ∀ j, j < w.heap.size → j ≠ bk → j ≠ gx → w'.heap[j]? = w.heap[j]?
theorem TouchU.refl (bk gx : Nat) (w : World) : TouchU bk gx w w := ⟨rfl, rfl, rfl, Nat.le_refl _, fun _ _ _ _ => rfl⟩
theorem TouchU.set {bk gx : Nat} {w w' : World} (h : TouchU bk gx w w') (b o : Nat) (v : Value) (hb : b = bk ∨ b = gx ∨ w.heap.size ≤ b) : TouchU bk gx w (w'.setCell ⟨b, o, none⟩ v) :=
  ⟨h.os, h.tape, h.output, by rw [show (w'.setCell ⟨b, o, none⟩ v).heap.size = w'.heap.size by simp [World.setCell]]; exact h.size, fun j hj h1 h2 => (Below.heap_setCell _ _ _ _ (show j ≠ b by omega)).trans (h.block j hj h1 h2)⟩
theorem TouchU.below {bk gx B : Nat} {w w' w'' : World} (h : TouchU bk gx w w') (k : Below B w' w'') (hB : w.heap.size ≤ B) : TouchU bk gx w w'' :=
  ⟨k.os.trans h.os, k.tape.trans h.tape, k.output.trans h.output, Nat.le_trans h.size k.size, fun j hj h1 h2 => (k.block j (by omega)).trans (h.block j hj h1 h2)⟩
/-- The cells of some books. -/
def bookCU (v : Value) : List Value := [.int .i64 1, v, .slice none 0 0, .slice none 0 0, .slice none 0 0]
def booksCU (vs : List Value) : List Value := (vs.map bookCU).flatten
theorem booksCU_snoc (vs : List Value) (v : Value) : booksCU (vs ++ [v]) = booksCU vs ++ bookCU v := by simp [booksCU]

theorem binfoU : (Tryz.prog.info? 111).map (fun i => (i.zero, i.size, i.bytes)) = some (some (.agg #[.int .i64 0, .slice none 0 0, .slice none 0 0, .slice none 0 0, .slice none 0 0]), 5, 104) := by kernel_rfl

/-- The list that is being handed on: the row itself, or a longer one of the call's own. -/
def CurU (B gx n : Nat) (W : World) (k : Nat) (l : Value) : Prop :=
  (k = 0 ∧ l = .slice (some ⟨gx, 0, none⟩) n n ∧ UBlk W gx n (fun _ => mU)) ∨ (1 ≤ k ∧ OwnU B W l (List.replicate (n + k) mU)) ∨ (k = 0 ∧ n = 0 ∧ l = .slice none 0 0)
/-- Four lists at most are booked, all full. -/
structure BkU (bk B N : Nat) (W : World) (vs : List Value) (u : Value) : Prop where
  blk : W.heap[bk]? = some (.cells #[.int .i64 1, u] 38 (0, 0))
  row : W.ownsRow B 111 5 u vs.length (booksCU vs)
  full : ∀ v, v ∈ vs → UFull W N v

/-- A row that is kept where its block is. -/
theorem ownU_keep {base : Nat} {w w' : World} {e : TypeId} {sz : Nat} {v : Value} {n : Nat} {xs : List Value} (h : w.ownsRow base e sz v n xs) (k : ∀ j, some j = v.ownBlock → w'.heap[j]? = w.heap[j]?) : w'.ownsRow base e sz v n xs := by
  obtain ⟨h1, ⟨rfl, h2⟩ | ⟨g, cap, cur, rfl, hg, hb, h3⟩⟩ := h
  · exact ⟨h1, Or.inl ⟨rfl, h2⟩⟩
  · exact ⟨h1, Or.inr ⟨g, cap, cur, rfl, hg, (k g (by simp [Value.ownBlock])).trans hb, h3⟩⟩
theorem ownU_type {base : Nat} {w : World} {e : TypeId} {sz : Nat} {v : Value} {n : Nat} {xs : List Value} (h : w.ownsRow base e sz v n xs) {j : Nat} (hj : some j = v.ownBlock) : base ≤ j ∧ ∃ cur fz, w.heap[j]? = some (.cells cur e fz) := by
  obtain ⟨_, ⟨rfl, _⟩ | ⟨g, cap, cur, rfl, hg, hb, _⟩⟩ := h
  · simp [Value.ownBlock] at hj
  · simp [Value.ownBlock] at hj; subst hj; exact ⟨hg, cur, _, hb⟩
theorem ownU_base {base base' : Nat} {w : World} {e : TypeId} {sz : Nat} {v : Value} {n : Nat} {xs : List Value} (h : w.ownsRow base e sz v n xs) (hb : base' ≤ base) : w.ownsRow base' e sz v n xs := by
  obtain ⟨h1, h2 | ⟨g, cap, cur, rfl, hg, h3⟩⟩ := h
  · exact ⟨h1, Or.inl h2⟩
  · exact ⟨h1, Or.inr ⟨g, cap, cur, rfl, by omega, h3⟩⟩

theorem BkU.far {bk B N : Nat} {W : World} {vs : List Value} {u : Value} (h : BkU bk B N W vs u) {g : Nat} {cs : Array Value} {fz : Nat × Nat} (hg : W.heap[g]? = some (Obj.cells cs 28 fz)) : g ≠ bk ∧ some g ≠ u.ownBlock := by
  constructor
  · rintro rfl; rw [h.blk] at hg; simp at hg
  · intro e
    obtain ⟨_, cur, fz', h2⟩ := ownU_type h.row e
    rw [h2] at hg; simp at hg
theorem BkU.to {bk B N N' : Nat} {W W' : World} {vs : List Value} {u : Value} (h : BkU bk B N W vs u) (hN : N ≤ N') (h1 : W'.heap[bk]? = W.heap[bk]?) (h2 : ∀ j, some j = u.ownBlock → W'.heap[j]? = W.heap[j]?)
    (k : ∀ (g : Nat) (cs : Array Value) (fz : Nat × Nat), W.heap[g]? = some (Obj.cells cs 28 fz) → W'.heap[g]? = W.heap[g]? ∨ ∃ cs' fz', W'.heap[g]? = some (Obj.cells cs' 28 fz') ∧ ∀ j, j < N * 3 → cs'[j]? = some (cellU (fun _ => mU) j)) : BkU bk B N' W' vs u :=
  ⟨h1.trans h.blk, ownU_keep h.row h2, fun v hv => (h.full v hv).to hN k⟩

theorem CurU.form {B gx n : Nat} {W : World} {k : Nat} {l : Value} (h : CurU B gx n W k l) (hl : l ≠ .slice none 0 0) : ∃ g cap cs fz, l = .slice (some ⟨g, 0, none⟩) (n + k) cap ∧ W.heap[g]? = some (Obj.cells cs 28 fz) ∧ (∀ j, j < (n + k) * 3 → cs[j]? = some (cellU (fun _ => mU) j)) ∧ (k = 0 → g = gx ∧ cap = n) ∧ (1 ≤ k → B ≤ g ∧ OwnU B W l (List.replicate (n + k) mU)) := by
  rcases h with ⟨rfl, rfl, h⟩ | ⟨hk, h⟩ | ⟨_, _, h⟩
  rotate_right
  · exact absurd h hl
  · obtain ⟨c, hb, hz, hc⟩ := h
    exact ⟨gx, n, c, _, by simp, hb, fun j hj => hc j (by omega), fun _ => ⟨rfl, rfl⟩, fun h => by omega⟩
  · have h' := h
    obtain ⟨h1, ⟨rfl, h0⟩ | ⟨g, cap, cur, e, hg, hb, hn, hcap, hcs, htk⟩⟩ := h
    · simp at h0; omega
    · rw [List.length_replicate] at e
      refine ⟨g, cap, cur, _, e, hb, fun j hj => ?_, fun h => by omega, fun _ => ⟨hg, h'⟩⟩
      have hx := upCs_mark (n + k) j hj
      rw [← htk, List.getElem?_take, if_pos (by simp; omega), Array.getElem?_toList] at hx
      exact hx
theorem CurU.full {B gx n : Nat} {W : World} {k : Nat} {l : Value} (h : CurU B gx n W k l) : UFull W (n + k) l := by
  by_cases hl : l = .slice none 0 0
  · subst hl; exact ⟨none, 0, 0, rfl, Nat.zero_le _, Or.inl rfl⟩
  obtain ⟨g, cap, cs, fz, rfl, hg, hc, _, _⟩ := h.form hl
  exact ⟨_, _, _, rfl, Nat.le_refl _, Or.inr ⟨g, cs, fz, rfl, hg, hc⟩⟩
theorem CurU.keep {B gx n : Nat} {W W' : World} {k : Nat} {l : Value} (h : CurU B gx n W k l) (hk : ∀ (g : Nat) (cs : Array Value) (fz : Nat × Nat), W.heap[g]? = some (Obj.cells cs 28 fz) → W'.heap[g]? = W.heap[g]?) : CurU B gx n W' k l := by
  rcases h with ⟨rfl, rfl, h⟩ | ⟨h1, h⟩ | ⟨h1, h2, h3⟩
  rotate_right
  · exact Or.inr (Or.inr ⟨h1, h2, h3⟩)
  · obtain ⟨c, hb, hz, hc⟩ := h
    exact Or.inl ⟨rfl, rfl, ⟨c, (hk _ _ _ hb).trans hb, hz, hc⟩⟩
  · refine Or.inr <| Or.inl ⟨h1, ownU_keep h fun j hj => ?_⟩
    obtain ⟨_, cur, fz, h2⟩ := ownU_type h hj
    exact hk _ _ _ h2

/-- A list has been booked. -/
theorem bookU_step {bk gx n q : Nat} {w wr w0 w1 : World} {vs : List Value} {u l : Value} {g cap : Nat} (hbl : bk < w.heap.size) (hb : BkU bk w.heap.size (n + q) wr vs u) (hc : CurU w.heap.size gx n wr q l) (ht : TouchU bk gx w wr)
    (hw0 : Below wr.heap.size wr w0)
    (hown : w1.ownsRow w.heap.size 111 5 (.slice (some ⟨g, 0, none⟩) (vs.length + 1) cap) (vs.length + 1) (booksCU vs ++ bookCU l)) (hgrow : w0.grownBy w1 u.ownBlock) :
    BkU bk w.heap.size (n + q) (w1.setCell ⟨bk, 1, none⟩ (.slice (some ⟨g, 0, none⟩) (vs.length + 1) cap)) (vs ++ [l]) (.slice (some ⟨g, 0, none⟩) (vs.length + 1) cap)
      ∧ CurU w.heap.size gx n (w1.setCell ⟨bk, 1, none⟩ (.slice (some ⟨g, 0, none⟩) (vs.length + 1) cap)) q l
      ∧ TouchU bk gx w (w1.setCell ⟨bk, 1, none⟩ (.slice (some ⟨g, 0, none⟩) (vs.length + 1) cap)) := by
  have hsz := ht.size
  have hs0 := hw0.size
  have e1 : ∀ j, j < wr.heap.size → some j ≠ u.ownBlock → w1.heap[j]? = wr.heap[j]? := fun j hj hn => (hgrow.block _ (by omega) hn).trans (hw0.block _ hj)
  have e2 : ∀ j, j ≠ bk → (w1.setCell ⟨bk, 1, none⟩ (.slice (some ⟨g, 0, none⟩) (vs.length + 1) cap)).heap[j]? = w1.heap[j]? := fun j hj => Below.heap_setCell _ _ _ _ hj
  have hi : ∀ (g' : Nat) (cs : Array Value) (fz : Nat × Nat), wr.heap[g']? = some (Obj.cells cs 28 fz) → (w1.setCell ⟨bk, 1, none⟩ (.slice (some ⟨g, 0, none⟩) (vs.length + 1) cap)).heap[g']? = wr.heap[g']? := fun g' cs fz h => by
    obtain ⟨h1, h2⟩ := hb.far h
    exact (e2 _ h1).trans (e1 _ (lt_of_cells h) h2)
  have hbu : some bk ≠ u.ownBlock := fun e => by have := (ownU_type hb.row e).1; omega
  have hc2 := hc.keep hi
  refine ⟨⟨?_, ?_, fun v hv => ?_⟩, hc2, ?_⟩
  · have h := (e1 bk (by omega) hbu).trans hb.blk
    simp [World.setCell, Array.getElem?_modify, h]
  · have hl : (vs ++ [l]).length = vs.length + 1 := by simp
    rw [booksCU_snoc, hl]
    refine ownU_keep hown fun j hj => e2 j ?_
    have := (ownU_type hown hj).1
    omega
  · rcases List.mem_append.1 hv with h | h
    · exact (hb.full v h).to (Nat.le_refl _) fun g cs fz hg => Or.inl (hi g cs fz hg)
    · rw [List.mem_singleton] at h; subst h; exact hc2.full
  · refine TouchU.set ⟨hgrow.os.trans (hw0.os.trans ht.os), hgrow.tape.trans (hw0.tape.trans ht.tape), hgrow.output.trans (hw0.output.trans ht.output), Nat.le_trans hsz (Nat.le_trans hs0 hgrow.size), fun j hj h1 h2 => (e1 j (by omega) fun e => ?_).trans (ht.block j hj h1 h2)⟩ _ _ _ (Or.inl rfl)
    have := (ownU_type hb.row e).1; omega

/-- The list has grown in its own room. -/
theorem listU_room {bk gx n q B : Nat} {w W2 W0 W3 : World} {vs : List Value} {u : Value} {g cap : Nat} {cs : Array Value} {fz : Nat × Nat} (hB : B = w.heap.size) (hbl : bk < B) (hb : BkU bk B (n + q) W2 vs u) (ht : TouchU bk gx w W2)
    (hg : W2.heap[g]? = some (Obj.cells cs 28 fz)) (hBg : B ≤ g) (hw0 : Below W2.heap.size W2 W0)
    (hown : W3.ownsRow B 28 3 (.slice (some ⟨g, 0, none⟩) (n + q + 1) cap) (n + q + 1) (upCs (List.replicate (n + q) mU) ++ upC mU)) (hgrow : W0.grownBy W3 (some g)) :
    BkU bk B (n + (q + 1)) W3 vs u ∧ CurU B gx n W3 (q + 1) (.slice (some ⟨g, 0, none⟩) (n + q + 1) cap) ∧ TouchU bk gx w W3 := by
  have hsz := ht.size
  have hs0 := hw0.size
  have e1 : ∀ j, j < W2.heap.size → j ≠ g → W3.heap[j]? = W2.heap[j]? := fun j hj hn => (hgrow.block _ (by omega) (by simpa using hn)).trans (hw0.block _ hj)
  have hc : CurU B gx n W3 (q + 1) (.slice (some ⟨g, 0, none⟩) (n + q + 1) cap) := by
    refine Or.inr <| Or.inl ⟨by omega, ?_⟩
    unfold OwnU
    rw [upCs_repl] at hown
    rw [List.length_replicate]
    exact hown
  obtain ⟨g2, cap2, cs2, fz2, e2, hg2, hcs2, _, _⟩ := hc.form (by simp)
  simp at e2
  obtain ⟨rfl, _, _⟩ := e2
  refine ⟨hb.to (by omega) (e1 bk (by omega) (by omega)) (fun j hj => ?_) (fun g' cs' fz' h => ?_), hc, ?_⟩
  · obtain ⟨_, cur, fz', h2⟩ := ownU_type hb.row hj
    exact e1 j (lt_of_cells h2) fun e => (hb.far hg).2 (e ▸ hj)
  · by_cases he : g' = g
    · subst he; exact Or.inr ⟨cs2, fz2, hg2, fun j hj => hcs2 j (by omega)⟩
    · exact Or.inl (e1 g' (lt_of_cells h) he)
  · exact ⟨hgrow.os.trans (hw0.os.trans ht.os), hgrow.tape.trans (hw0.tape.trans ht.tape), hgrow.output.trans (hw0.output.trans ht.output), Nat.le_trans hsz (Nat.le_trans hs0 hgrow.size), fun j hj h1 h2 => (e1 j (by omega) (by omega)).trans (ht.block j hj h1 h2)⟩
/-- The list has grown into a block of its own. -/
theorem listU_grows {bk gx n q B Z : Nat} {w W2 W0 W3 : World} {vs : List Value} {u v : Value} (hB : B = w.heap.size) (hbl : bk < B) (hb : BkU bk B (n + q) W2 vs u) (ht : TouchU bk gx w W2) (hZ : B ≤ Z) (hw0 : Below W2.heap.size W2 W0)
    (hown : W3.ownsRow Z 28 3 v (n + q + 1) (upCs (List.replicate (n + q) mU) ++ upC mU)) (hgrow : W0.grownBy W3 none) :
    BkU bk B (n + (q + 1)) W3 vs u ∧ CurU B gx n W3 (q + 1) v ∧ TouchU bk gx w W3 := by
  have hsz := ht.size
  have hs0 := hw0.size
  have e1 : ∀ j, j < W2.heap.size → W3.heap[j]? = W2.heap[j]? := fun j hj => (hgrow.block _ (by omega) (by simp)).trans (hw0.block _ hj)
  have hc : CurU B gx n W3 (q + 1) v := by
    refine Or.inr <| Or.inl ⟨by omega, ?_⟩
    unfold OwnU
    rw [upCs_repl] at hown
    rw [List.length_replicate]
    exact ownU_base hown hZ
  refine ⟨hb.to (by omega) (e1 bk (by omega)) (fun j hj => ?_) (fun g' cs' fz' h => Or.inl (e1 g' (lt_of_cells h))), hc, ?_⟩
  · obtain ⟨_, cur, fz', h2⟩ := ownU_type hb.row hj
    exact e1 j (lt_of_cells h2)
  · exact ⟨hgrow.os.trans (hw0.os.trans ht.os), hgrow.tape.trans (hw0.tape.trans ht.tape), hgrow.output.trans (hw0.output.trans ht.output), Nat.le_trans hsz (Nat.le_trans hs0 hgrow.size), fun j hj h1 h2 => (e1 j (by omega)).trans (ht.block j hj h1 h2)⟩
end Go.Proofs.YtddcbeeldjjmeaaGreatDoor.Tw
