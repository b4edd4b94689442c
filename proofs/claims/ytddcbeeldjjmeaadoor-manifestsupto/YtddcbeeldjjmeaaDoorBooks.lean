/- Lists that came out, marked by their owner: ints. -/
import Derived.Test.YtddcbeeldjjmeaaDoorOwnM
import Derived.Deep.AppendLies
import Derived.Deep.RegionLaw
import Derived.ArgAppend
import Derived.Deep.DeepAppendRoom
import Derived.Lib.JoinLaws
namespace Go.Proofs.YtddcbeeldjjmeaaDoor.Tw
open Go.RowKit Go.Proofs.YtddcbeeldjjmeaaDoor.Pu
set_option linter.unusedVariables false
set_option linter.unusedSimpArgs false

/-- A list full of one mark. -/
def Full (W : World) (m : Int) (N : Nat) (v : Value) : Prop := ∃ p n cap, v = .slice p n cap ∧ n ≤ N ∧ (n = 0 ∨ ∃ (g : Nat) (cs : Array Value) (fz : Nat × Nat), p = some ⟨g, 0, none⟩ ∧ W.heap[g]? = some (Obj.cells cs 3 fz) ∧ ∀ j, j < n → cs[j]? = some (.int .i64 m))
theorem Full.to {W W' : World} {m : Int} {N N' : Nat} {v : Value} (h : Full W m N v) (hN : N ≤ N') (k : ∀ (g : Nat) (cs : Array Value) (fz : Nat × Nat), W.heap[g]? = some (Obj.cells cs 3 fz) → W'.heap[g]? = W.heap[g]? ∨ ∃ cs' fz', W'.heap[g]? = some (Obj.cells cs' 3 fz') ∧ ∀ j, j < N → cs'[j]? = some (.int .i64 m)) : Full W' m N' v := by
  obtain ⟨p, n, cap, rfl, hn, h0 | ⟨g, cs, fz, hp, hg, hc⟩⟩ := h
  · exact ⟨p, n, cap, rfl, by omega, Or.inl h0⟩
  · rcases k g cs fz hg with e | ⟨cs', fz', e, hc'⟩
    · exact ⟨p, n, cap, rfl, by omega, Or.inr ⟨g, cs, fz, hp, e.trans hg, hc⟩⟩
    · exact ⟨p, n, cap, rfl, by omega, Or.inr ⟨g, cs', fz', hp, e, fun j hj => hc' j (by omega)⟩⟩
/-- What a call may touch of old memory: two blocks. -/
structure Touch (bk gx : Nat) (w w' : World) : Prop where
  os : w'.os = w.os
  tape : w'.tape = w.tape
  output : w'.output = w.output
  size : w.heap.size ≤ w'.heap.size
  block : ∀ j, j < w.heap.size → j ≠ bk → j ≠ gx → w'.heap[j]? = w.heap[j]?
theorem Touch.refl (bk gx : Nat) (w : World) : Touch bk gx w w := ⟨rfl, rfl, rfl, Nat.le_refl _, fun _ _ _ _ => rfl⟩
theorem Touch.set {bk gx : Nat} {w w' : World} (h : Touch bk gx w w') (b o : Nat) (v : Value) (hb : b = bk ∨ b = gx ∨ w.heap.size ≤ b) : Touch bk gx w (w'.setCell ⟨b, o, none⟩ v) :=
  ⟨h.os, h.tape, h.output, by rw [show (w'.setCell ⟨b, o, none⟩ v).heap.size = w'.heap.size by simp [World.setCell]]; exact h.size, fun j hj h1 h2 => (Below.heap_setCell _ _ _ _ (show j ≠ b by omega)).trans (h.block j hj h1 h2)⟩
theorem Touch.below {bk gx B : Nat} {w w' w'' : World} (h : Touch bk gx w w') (k : Below B w' w'') (hB : w.heap.size ≤ B) : Touch bk gx w w'' :=
  ⟨k.os.trans h.os, k.tape.trans h.tape, k.output.trans h.output, Nat.le_trans h.size k.size, fun j hj h1 h2 => (k.block j (by omega)).trans (h.block j hj h1 h2)⟩
theorem fill_set (ds : List Int) (m : Int) (j : Nat) (h : j < ds.length) : (List.replicate j m ++ ds.drop j).set j m = List.replicate (j + 1) m ++ ds.drop (j + 1) := by
  have e : ds.drop j = ds[j] :: ds.drop (j + 1) := List.drop_eq_getElem_cons h
  rw [List.set_append_right _ _ (by simp), List.length_replicate, Nat.sub_self, e, List.set_cons_zero, List.replicate_succ', List.append_assoc]; rfl
/-- The cells of some books. -/
def bookC (v : Value) : List Value := [.int .i64 1, .slice none 0 0, v, .slice none 0 0, .slice none 0 0]
def booksC (vs : List Value) : List Value := (vs.map bookC).flatten
theorem booksC_snoc (vs : List Value) (v : Value) : booksC (vs ++ [v]) = booksC vs ++ bookC v := by simp [booksC]

theorem binfo : (Tryd.prog.info? 68).map (fun i => (i.zero, i.size, i.bytes)) = some (some (.agg #[.int .i64 0, .slice none 0 0, .slice none 0 0, .slice none 0 0, .slice none 0 0]), 5, 104) := by kernel_rfl

/-- The list that is being handed on: the row itself, or a longer one of the call's own. -/
def Cur (B gx n : Nat) (W : World) (k : Nat) (l : Value) : Prop :=
  (k = 0 ∧ l = .slice (some ⟨gx, 0, none⟩) n n ∧ NRow W gx (List.replicate n (-1001))) ∨ (1 ≤ k ∧ OwnI B W l (List.replicate (n + k) (-1001))) ∨ (k = 0 ∧ n = 0 ∧ l = .slice none 0 0)
/-- Four lists at most are booked, all full. -/
structure Bk (bk B N : Nat) (W : World) (vs : List Value) (u : Value) : Prop where
  blk : W.heap[bk]? = some (.cells #[.int .i64 1, u] 40 (0, 0))
  row : W.ownsRow B 68 5 u vs.length (booksC vs)
  full : ∀ v, v ∈ vs → Full W (-1001) N v

/-- A row that is kept where its block is. -/
theorem own_keep {base : Nat} {w w' : World} {e : TypeId} {sz : Nat} {v : Value} {n : Nat} {xs : List Value} (h : w.ownsRow base e sz v n xs) (k : ∀ j, some j = v.ownBlock → w'.heap[j]? = w.heap[j]?) : w'.ownsRow base e sz v n xs := by
  obtain ⟨h1, ⟨rfl, h2⟩ | ⟨g, cap, cur, rfl, hg, hb, h3⟩⟩ := h
  · exact ⟨h1, Or.inl ⟨rfl, h2⟩⟩
  · exact ⟨h1, Or.inr ⟨g, cap, cur, rfl, hg, (k g (by simp [Value.ownBlock])).trans hb, h3⟩⟩
theorem own_type {base : Nat} {w : World} {e : TypeId} {sz : Nat} {v : Value} {n : Nat} {xs : List Value} (h : w.ownsRow base e sz v n xs) {j : Nat} (hj : some j = v.ownBlock) : base ≤ j ∧ ∃ cur fz, w.heap[j]? = some (.cells cur e fz) := by
  obtain ⟨_, ⟨rfl, _⟩ | ⟨g, cap, cur, rfl, hg, hb, _⟩⟩ := h
  · simp [Value.ownBlock] at hj
  · simp [Value.ownBlock] at hj; subst hj; exact ⟨hg, cur, _, hb⟩
theorem own_base {base base' : Nat} {w : World} {e : TypeId} {sz : Nat} {v : Value} {n : Nat} {xs : List Value} (h : w.ownsRow base e sz v n xs) (hb : base' ≤ base) : w.ownsRow base' e sz v n xs := by
  obtain ⟨h1, h2 | ⟨g, cap, cur, rfl, hg, h3⟩⟩ := h
  · exact ⟨h1, Or.inl h2⟩
  · exact ⟨h1, Or.inr ⟨g, cap, cur, rfl, by omega, h3⟩⟩

theorem Bk.far {bk B N : Nat} {W : World} {vs : List Value} {u : Value} (h : Bk bk B N W vs u) {g : Nat} {cs : Array Value} {fz : Nat × Nat} (hg : W.heap[g]? = some (Obj.cells cs 3 fz)) : g ≠ bk ∧ some g ≠ u.ownBlock := by
  constructor
  · rintro rfl; rw [h.blk] at hg; simp at hg
  · intro e
    obtain ⟨_, cur, fz', h2⟩ := own_type h.row e
    rw [h2] at hg; simp at hg
theorem Bk.to {bk B N N' : Nat} {W W' : World} {vs : List Value} {u : Value} (h : Bk bk B N W vs u) (hN : N ≤ N') (h1 : W'.heap[bk]? = W.heap[bk]?) (h2 : ∀ j, some j = u.ownBlock → W'.heap[j]? = W.heap[j]?)
    (k : ∀ (g : Nat) (cs : Array Value) (fz : Nat × Nat), W.heap[g]? = some (Obj.cells cs 3 fz) → W'.heap[g]? = W.heap[g]? ∨ ∃ cs' fz', W'.heap[g]? = some (Obj.cells cs' 3 fz') ∧ ∀ j, j < N → cs'[j]? = some (.int .i64 (-1001))) : Bk bk B N' W' vs u :=
  ⟨h1.trans h.blk, own_keep h.row h2, fun v hv => (h.full v hv).to hN k⟩

theorem Cur.form {B gx n : Nat} {W : World} {k : Nat} {l : Value} (h : Cur B gx n W k l) (hl : l ≠ .slice none 0 0) : ∃ g cap cs fz, l = .slice (some ⟨g, 0, none⟩) (n + k) cap ∧ W.heap[g]? = some (Obj.cells cs 3 fz) ∧ (∀ j, j < n + k → cs[j]? = some (.int .i64 (-1001))) ∧ (k = 0 → g = gx ∧ cap = n) ∧ (1 ≤ k → B ≤ g ∧ OwnI B W l (List.replicate (n + k) (-1001))) := by
  rcases h with ⟨rfl, rfl, h⟩ | ⟨hk, h⟩ | ⟨_, _, h⟩
  rotate_right
  · exact absurd h hl
  · refine ⟨gx, n, _, _, by simp, h, fun j hj => ?_, fun _ => ⟨rfl, rfl⟩, fun h => by omega⟩
    have hj' : j < n := by omega
    simp [hj']
  · have h' := h
    obtain ⟨h1, ⟨rfl, h0⟩ | ⟨g, cap, cur, e, hg, hb, hn, hcap, hcs, htk⟩⟩ := h
    · simp at h0; omega
    · rw [List.length_replicate] at e
      refine ⟨g, cap, cur, _, e, hb, fun j hj => ?_, fun h => by omega, fun _ => ⟨hg, h'⟩⟩
      have hx : ((List.replicate (n + k) (-1001 : Int)).map fun n => Value.int .i64 n)[j]? = some (.int .i64 (-1001)) := by rw [List.map_replicate, List.getElem?_replicate, if_pos hj]
      rw [← htk, List.getElem?_take, if_pos (by simp; omega), Array.getElem?_toList] at hx
      exact hx
theorem Cur.full {B gx n : Nat} {W : World} {k : Nat} {l : Value} (h : Cur B gx n W k l) : Full W (-1001) (n + k) l := by
  by_cases hl : l = .slice none 0 0
  · subst hl; exact ⟨none, 0, 0, rfl, Nat.zero_le _, Or.inl rfl⟩
  obtain ⟨g, cap, cs, fz, rfl, hg, hc, _, _⟩ := h.form hl
  exact ⟨_, _, _, rfl, Nat.le_refl _, Or.inr ⟨g, cs, fz, rfl, hg, hc⟩⟩
theorem Cur.keep {B gx n : Nat} {W W' : World} {k : Nat} {l : Value} (h : Cur B gx n W k l) (hk : ∀ (g : Nat) (cs : Array Value) (fz : Nat × Nat), W.heap[g]? = some (Obj.cells cs 3 fz) → W'.heap[g]? = W.heap[g]?) : Cur B gx n W' k l := by
  rcases h with ⟨rfl, rfl, h⟩ | ⟨h1, h⟩ | ⟨h1, h2, h3⟩
  rotate_right
  · exact Or.inr (Or.inr ⟨h1, h2, h3⟩)
  · exact Or.inl ⟨rfl, rfl, h.keep (hk _ _ _ h)⟩
  · refine Or.inr <| Or.inl ⟨h1, own_keep h fun j hj => ?_⟩
    obtain ⟨_, cur, fz, h2⟩ := own_type h hj
    exact hk _ _ _ h2

/-- A list has been booked. -/
theorem book_step {bk gx n q : Nat} {w wr w1 : World} {cc : Array Value} {vs : List Value} {u l : Value} {g cap : Nat} (hbl : bk < w.heap.size) (hb : Bk bk w.heap.size (n + q) wr vs u) (hc : Cur w.heap.size gx n wr q l) (ht : Touch bk gx w wr)
    (hown : w1.ownsRow w.heap.size 68 5 (.slice (some ⟨g, 0, none⟩) (vs.length + 1) cap) (vs.length + 1) (booksC vs ++ bookC l)) (hgrow : (wr.alloc (.cells cc 68)).drew.grownBy w1 u.ownBlock) :
    Bk bk w.heap.size (n + q) (w1.setCell ⟨bk, 1, none⟩ (.slice (some ⟨g, 0, none⟩) (vs.length + 1) cap)) (vs ++ [l]) (.slice (some ⟨g, 0, none⟩) (vs.length + 1) cap)
      ∧ Cur w.heap.size gx n (w1.setCell ⟨bk, 1, none⟩ (.slice (some ⟨g, 0, none⟩) (vs.length + 1) cap)) q l
      ∧ Touch bk gx w (w1.setCell ⟨bk, 1, none⟩ (.slice (some ⟨g, 0, none⟩) (vs.length + 1) cap)) := by
  have hsz := ht.size
  have e1 : ∀ j, j < wr.heap.size → some j ≠ u.ownBlock → w1.heap[j]? = wr.heap[j]? := fun j hj hn => (hgrow.block _ (by simp; omega) hn).trans (Below.heap_alloc _ _ _ hj)
  have e2 : ∀ j, j ≠ bk → (w1.setCell ⟨bk, 1, none⟩ (.slice (some ⟨g, 0, none⟩) (vs.length + 1) cap)).heap[j]? = w1.heap[j]? := fun j hj => Below.heap_setCell _ _ _ _ hj
  have hi : ∀ (g' : Nat) (cs : Array Value) (fz : Nat × Nat), wr.heap[g']? = some (Obj.cells cs 3 fz) → (w1.setCell ⟨bk, 1, none⟩ (.slice (some ⟨g, 0, none⟩) (vs.length + 1) cap)).heap[g']? = wr.heap[g']? := fun g' cs fz h => by
    obtain ⟨h1, h2⟩ := hb.far h
    exact (e2 _ h1).trans (e1 _ (lt_of_cells h) h2)
  have hbu : some bk ≠ u.ownBlock := fun e => by have := (own_type hb.row e).1; omega
  have hc2 := hc.keep hi
  refine ⟨⟨?_, ?_, fun v hv => ?_⟩, hc2, ?_⟩
  · have h := (e1 bk (by omega) hbu).trans hb.blk
    simp [World.setCell, Array.getElem?_modify, h]
  · have hl : (vs ++ [l]).length = vs.length + 1 := by simp
    rw [booksC_snoc, hl]
    refine own_keep hown fun j hj => e2 j ?_
    have := (own_type hown hj).1
    omega
  · rcases List.mem_append.1 hv with h | h
    · exact (hb.full v h).to (Nat.le_refl _) fun g cs fz hg => Or.inl (hi g cs fz hg)
    · rw [List.mem_singleton] at h; subst h; exact hc2.full
  · refine Touch.set ⟨hgrow.os.trans ht.os, hgrow.tape.trans ?_, hgrow.output.trans ht.output, Nat.le_trans hsz (Nat.le_trans (by simp) hgrow.size), fun j hj h1 h2 => (e1 j (by omega) fun e => ?_).trans (ht.block j hj h1 h2)⟩ _ _ _ (Or.inl rfl)
    · exact ht.tape
    · have := (own_type hb.row e).1; omega

theorem repl_snoc (n : Nat) (m : Int) : ((List.replicate n m).map fun n => Value.int .i64 n) ++ [Value.int .i64 m] = (List.replicate (n + 1) m).map fun n => Value.int .i64 n := by
  rw [List.replicate_succ', List.map_append]; rfl
/-- The list has grown in its own room. -/
theorem list_room {bk gx n q B : Nat} {w W2 W3 : World} {cc : Array Value} {vs : List Value} {u : Value} {g cap : Nat} {cs : Array Value} {fz : Nat × Nat} (hB : B = w.heap.size) (hbl : bk < B) (hb : Bk bk B (n + q) W2 vs u) (ht : Touch bk gx w W2)
    (hg : W2.heap[g]? = some (Obj.cells cs 3 fz)) (hBg : B ≤ g)
    (hown : W3.ownsRow B 3 1 (.slice (some ⟨g, 0, none⟩) (n + q + 1) cap) (n + q + 1) (((List.replicate (n + q) (-1001)).map fun n => Value.int .i64 n) ++ [.int .i64 (-1001)])) (hgrow : (W2.alloc (.cells cc 3)).grownBy W3 (some g)) :
    Bk bk B (n + (q + 1)) W3 vs u ∧ Cur B gx n W3 (q + 1) (.slice (some ⟨g, 0, none⟩) (n + q + 1) cap) ∧ Touch bk gx w W3 := by
  have hsz := ht.size
  have e1 : ∀ j, j < W2.heap.size → j ≠ g → W3.heap[j]? = W2.heap[j]? := fun j hj hn => (hgrow.block _ (by simp; omega) (by simpa using hn)).trans (Below.heap_alloc _ _ _ hj)
  have hc : Cur B gx n W3 (q + 1) (.slice (some ⟨g, 0, none⟩) (n + q + 1) cap) := by
    refine Or.inr <| Or.inl ⟨by omega, ?_⟩
    unfold OwnI
    rw [repl_snoc] at hown
    rw [List.length_replicate]
    exact hown
  obtain ⟨g2, cap2, cs2, fz2, e2, hg2, hcs2, _, _⟩ := hc.form (by simp)
  simp at e2
  obtain ⟨rfl, _, _⟩ := e2
  refine ⟨hb.to (by omega) (e1 bk (by omega) (by omega)) (fun j hj => ?_) (fun g' cs' fz' h => ?_), hc, ?_⟩
  · obtain ⟨_, cur, fz', h2⟩ := own_type hb.row hj
    exact e1 j (lt_of_cells h2) fun e => (hb.far hg).2 (e ▸ hj)
  · by_cases he : g' = g
    · subst he; exact Or.inr ⟨cs2, fz2, hg2, fun j hj => hcs2 j (by omega)⟩
    · exact Or.inl (e1 g' (lt_of_cells h) he)
  · exact ⟨hgrow.os.trans ht.os, hgrow.tape.trans ht.tape, hgrow.output.trans ht.output, Nat.le_trans hsz (Nat.le_trans (by simp) hgrow.size), fun j hj h1 h2 => (e1 j (by omega) (by omega)).trans (ht.block j hj h1 h2)⟩
/-- The list has grown into a block of its own. -/
theorem list_grows {bk gx n q B Z : Nat} {w W2 W3 : World} {cc : Array Value} {vs : List Value} {u v : Value} (hB : B = w.heap.size) (hbl : bk < B) (hb : Bk bk B (n + q) W2 vs u) (ht : Touch bk gx w W2) (hZ : B ≤ Z)
    (hown : W3.ownsRow Z 3 1 v (n + q + 1) (((List.replicate (n + q) (-1001)).map fun n => Value.int .i64 n) ++ [.int .i64 (-1001)])) (hgrow : (W2.alloc (.cells cc 3)).grownBy W3 none) :
    Bk bk B (n + (q + 1)) W3 vs u ∧ Cur B gx n W3 (q + 1) v ∧ Touch bk gx w W3 := by
  have hsz := ht.size
  have e1 : ∀ j, j < W2.heap.size → W3.heap[j]? = W2.heap[j]? := fun j hj => (hgrow.block _ (by simp; omega) (by simp)).trans (Below.heap_alloc _ _ _ hj)
  have hc : Cur B gx n W3 (q + 1) v := by
    refine Or.inr <| Or.inl ⟨by omega, ?_⟩
    unfold OwnI
    rw [repl_snoc] at hown
    rw [List.length_replicate]
    exact own_base hown hZ
  refine ⟨hb.to (by omega) (e1 bk (by omega)) (fun j hj => ?_) (fun g' cs' fz' h => Or.inl (e1 g' (lt_of_cells h))), hc, ?_⟩
  · obtain ⟨_, cur, fz', h2⟩ := own_type hb.row hj
    exact e1 j (lt_of_cells h2)
  · exact ⟨hgrow.os.trans ht.os, hgrow.tape.trans ht.tape, hgrow.output.trans ht.output, Nat.le_trans hsz (Nat.le_trans (by simp) hgrow.size), fun j hj h1 h2 => (e1 j (by omega)).trans (ht.block j hj h1 h2)⟩

set_option maxRecDepth 20000 in
set_option maxHeartbeats 4000000 in
theorem bints_any (bk gx : Nat) (ds : List Int) (p : Option Addr) (w : World) (hbk : w.heap[bk]? = some (.cells #[.int .i64 0, .slice none 0 0] 40 (0, 0))) (hg : gx ≠ bk) (hrow : (p = some ⟨gx, 0, none⟩ ∧ NRow w gx ds) ∨ (p = none ∧ ds = [])) (hlen : ds.length ≤ 290000) :
    Calls Tryd.prog 14 #[.pointer (some ⟨bk, 0, none⟩), .slice p ds.length ds.length] w fun e w' => e = .returned (.tuple #[]) ∧ (∃ vs u, vs.length = 4 ∧ Bk bk w.heap.size (ds.length + 4) w' vs u) ∧ Touch bk gx w w' := by
  have hfb : ∀ o, w.frozen? ⟨bk, o, none⟩ = false := fun o => by simp [World.frozen?, hbk]
  have b0 : w.cell? ⟨bk, 0, none⟩ = some (.int .i64 0) := by simp [World.cell?, hbk]
  have b1 : w.cell? ⟨bk, 1, none⟩ = some (.slice none 0 0) := by simp [World.cell?, hbk]
  have hbl : bk < w.heap.size := lt_of_cells hbk
  go_enter Tryd.func14, Tryd.ntmps14
  go_wp2_with fail
  have hbk2 : (w.setCell ⟨bk, 0, none⟩ (.int .i64 1)).heap[bk]? = some (.cells #[.int .i64 1, .slice none 0 0] 40 (0, 0)) := by simp [World.setCell, Array.getElem?_modify, hbk]
  have hr2 : (p = some ⟨gx, 0, none⟩ ∧ NRow (w.setCell ⟨bk, 0, none⟩ (.int .i64 1)) gx ds) ∨ (p = none ∧ ds = []) := hrow.imp (fun h => ⟨h.1, h.2.keep (Below.heap_setCell _ _ _ _ hg)⟩) id
  have ht2 := (Touch.refl bk gx w).set bk 0 (.int .i64 1) (Or.inl rfl)
  have hz2 : (w.setCell ⟨bk, 0, none⟩ (.int .i64 1)).heap.size = w.heap.size := by simp [World.setCell]
  generalize w.setCell ⟨bk, 0, none⟩ (.int .i64 1) = W1 at *
  clear hfb b0 b1
  go_loopw [5] (fun i wr => ∃ j : Nat, j ≤ ds.length ∧ i = .int .i64 j ∧ ((p = some ⟨gx, 0, none⟩ ∧ NRow wr gx (List.replicate j (-1001) ++ ds.drop j)) ∨ (p = none ∧ ds = [])) ∧ wr.heap[bk]? = some (.cells #[.int .i64 1, .slice none 0 0] 40 (0, 0)) ∧ Touch bk gx w wr ∧ wr.heap.size = w.heap.size) (fun i _ => (ds.length - intOf i).toNat)
  case atStart => exact ⟨0, by omega, rfl, by simpa using hr2, hbk2, ht2, hz2⟩
  case round =>
    obtain ⟨j, hj, rfl, hr, hbk3, ht, hz⟩ := hrel
    by_cases hjn : j < ds.length
    · obtain ⟨hp, hr8⟩ := hr.resolve_right (by rintro ⟨_, rfl⟩; simp at hjn)
      clear hr
      subst hp
      have hlj : j < (List.replicate j (-1001) ++ ds.drop j).length := by simp; omega
      have hcl := hr8.cell j hlj
      have hmk := hr8.mark j
      go_wp2_with fail
      go_roundw
      case rel =>
        refine ⟨j + 1, by omega, by go_num, Or.inl ⟨by simp, ?_⟩, (Below.heap_setCell _ _ _ _ (Ne.symm hg)).trans hbk3, ht.set gx j _ (Or.inr (Or.inl rfl)), by rw [← hz]; simp [World.setCell]⟩
        rw [← fill_set ds (-1001) j hjn]
        exact hr8.set j _
      case measure => simp [intOf]; omega
    · obtain rfl : j = ds.length := by omega
      rw [List.drop_length, List.append_nil] at hr
      go_wp2_with fail
      have hBk : Bk bk w.heap.size ds.length wr [] (.slice none 0 0) := ⟨hbk3, ⟨by simp [booksC], Or.inl ⟨rfl, rfl⟩⟩, by simp⟩
      have hCur : Cur w.heap.size gx ds.length wr 0 (.slice p ds.length ds.length) := by
        rcases hr with ⟨rfl, hr⟩ | ⟨rfl, rfl⟩
        · exact Or.inl ⟨rfl, rfl, hr⟩
        · exact Or.inr (Or.inr ⟨rfl, rfl, rfl⟩)
      clear hr hbk3 hz hbk2 hr2 ht2 hz2 hjn hj hrow hbk
      obtain ⟨i0, hi, hz0, hz1, hz2⟩ := info_parts i64info
      obtain ⟨ib, hib, hbz0, hbz1, hbz2⟩ := info_parts binfo
      go_loopw [1, 6] (fun l k wr => ∃ (q : Nat) (vs : List Value) (u : Value), q ≤ 4 ∧ k = .int .i64 q ∧ vs.length = q ∧ Bk bk w.heap.size (ds.length + q) wr vs u ∧ Cur w.heap.size gx ds.length wr q l ∧ Touch bk gx w wr) (fun _ k _ => (4 - intOf k).toNat)
      case atStart => exact ⟨0, [], _, by omega, rfl, rfl, hBk, hCur, ht⟩
      case round =>
        obtain ⟨q, vs, u, hq, rfl, hvs, hb, hc, ht⟩ := hrel
        by_cases hq4 : q < 4
        · have b0 : wr.cell? ⟨bk, 0, none⟩ = some (.int .i64 1) := by simp [World.cell?, hb.blk]
          have b1 : wr.cell? ⟨bk, 1, none⟩ = some u := by simp [World.cell?, hb.blk]
          have hfb : ∀ o, wr.frozen? ⟨bk, o, none⟩ = false := fun o => by simp [World.frozen?, hb.blk]
          obtain ⟨lp, ln, lc, rfl⟩ : ∃ p n c, u1 = .slice p n c := by
            obtain ⟨p, n, c, h, _⟩ := hc.full; exact ⟨_, _, _, h⟩
          have hO := hb.row
          have hOd : ∀ o, ((wr.drew).alloc o).ownsRow w.heap.size 68 5 u vs.length (booksC vs) := fun o => World.ownsRow.alloc (w := wr.drew) hO o
          have hne9 : some bk ≠ u.ownBlock := fun e => by
            obtain ⟨_, ⟨rfl, _⟩ | ⟨g, cap, cur, rfl, hg, _⟩⟩ := hO
            · simp [Value.ownBlock] at e
            · simp [Value.ownBlock] at e; omega
          have hsz := ht.size
          have hAb : ∀ o, (wr.alloc o).heap[bk]? = some (.cells #[.int .i64 1, u] 40 (0, 0)) := fun o => (Below.heap_alloc _ _ _ (show bk < wr.heap.size by omega)).trans hb.blk
          have hA0 : ∀ o, (wr.alloc o).cell? ⟨bk, 0, none⟩ = some (.int .i64 1) := fun o => by unfold World.cell?; rw [hAb o]; rfl
          have hA1 : ∀ o, (wr.alloc o).cell? ⟨bk, 1, none⟩ = some u := fun o => by unfold World.cell?; rw [hAb o]; rfl
          have hA2 : ∀ o, (wr.alloc o).frozen? ⟨bk, 1, none⟩ = false := fun o => by unfold World.frozen?; rw [hAb o]; rfl
          go_wp2_with fail
          go_region_law (first
            | (refine step_append_lies _ (by rfl) _ _ _ (by rfl) w.heap.size 68 ib _ 5 104 Tryd.underlying38 hib hbz0 hbz1 hbz2 rfl (by decide) _ vs.length (booksC vs) (by rfl) (hOd _) ⟨wr.heap.size, 0, none⟩ 1 1 _ (by rfl) (by rfl) (World.news_of_block (heap_alloc_new wr.drew _)) (by intro x hx; simp at hx; rcases hx with rfl | rfl | rfl | rfl <;> rfl) (by decide) (by unfold maxLen; omega) (by omega) (by simp; omega) _ rfl ?_; intro g cap2 w1 hown1 hgrow hat hlt; have hx4 := (hgrow.cell_far ⟨bk, 1, none⟩ (by simp; omega) hne9).trans (hA1 _); have hf4 := (hgrow.frozen_far ⟨bk, 1, none⟩ (by simp; omega) hne9).trans (hA2 _)))
          all_goals
            obtain ⟨hb2, hc2, ht2⟩ := book_step hbl hb hc ht hown1 hgrow
            clear hown1 hgrow hat hlt hx4 hf4 hb hc ht hO hOd hne9 hsz hAb hA0 hA1 hA2 b0 b1 hfb
            rw [hvs] at hb2 hc2 ht2
            generalize w1.setCell ⟨bk, 1, none⟩ (.slice (some ⟨g, 0, none⟩) (q + 1) cap2) = W2 at *
            try simp only [Exit.inBlock, Exit.then]
            have hsz2 := ht2.size
            by_cases hnil : Value.slice lp ln lc = .slice none 0 0
            · simp only [Value.slice.injEq] at hnil
              obtain ⟨rfl, rfl, rfl⟩ := hnil
              have hz9 : q = 0 ∧ ds.length = 0 := by
                obtain ⟨p9, n9, c9, e9, _⟩ := hc2.full
                rcases hc2 with ⟨h1, h2, _⟩ | ⟨h1, h2⟩ | ⟨h1, h2, _⟩
                · simp at h2
                · obtain ⟨p8, c8, e8, _⟩ := h2.irow
                  simp at e8; omega
                · exact ⟨h1, h2⟩
              obtain ⟨hz8, hz9⟩ := hz9
              have hap : ∀ (W3 : World) (Z : Nat) (v : Value), W3.ownsRow Z 3 1 v (0 + 1) ([] ++ [Value.int .i64 (-1001)]) → W3.ownsRow Z 3 1 v (ds.length + q + 1) (((List.replicate (ds.length + q) (-1001)).map fun n => Value.int .i64 n) ++ [.int .i64 (-1001)]) := by
                intro W3 Z v h; rw [hz8, hz9]; exact h
              clear hc2 hz8 hz9
              go_wp2_with (at_builtin; refine wpList_append_grows _ rfl (.tmp 48) (.tmp 50) 30 rfl 3 i0 (.int .i64 0) 1 8 Tryd.underlying30 hi hz0 hz1 hz2 rfl (by decide) none 0 0 [] rfl (by simp) (by simp) (by simp) ⟨W2.heap.size, 0, none⟩ 1 1 _ rfl rfl (World.news_of_block (heap_alloc_new W2 _)) (by intro y hy; simp at hy; subst hy; rfl) (by omega) (by unfold maxLen; omega) (by omega) ?_; intro v3 w3 hown3 hgrow3)
              obtain ⟨hb3, hc3, ht3⟩ := list_grows (n := ds.length) (q := q) rfl hbl hb2 ht2 (by simp; omega) (hap _ _ _ hown3) hgrow3
              clear hown3 hgrow3 hb2 ht2 hap
              go_wp2_with fail
              go_roundw
              case rel => exact ⟨q + 1, _, _, by omega, by go_num, by simp [hvs], hb3, hc3, ht3⟩
              case measure => simp [intOf]; omega
            obtain ⟨g1, cap1, cs1, fz1, e1, hg1, hcs1, hk0, hk1⟩ := hc2.form hnil
            simp only [Value.slice.injEq] at e1
            obtain ⟨rfl, rfl, rfl⟩ := e1
            by_cases hroom : ds.length + q + 1 ≤ lc
            · have hq1 : 1 ≤ q := by
                rcases Nat.eq_zero_or_pos q with h | h
                · obtain ⟨_, h2⟩ := hk0 h; omega
                · exact h
              obtain ⟨hBg, hOw⟩ := hk1 hq1
              unfold OwnI at hOw
              rw [List.length_replicate] at hOw
              clear hk0 hk1 hcs1 hc2
              go_wp2_with (at_builtin; refine wpList_append_own_spare _ rfl (.tmp 48) (.tmp 50) 30 rfl w.heap.size 3 i0 1 Tryd.underlying30 hi hz1 g1 (ds.length + q) lc ((List.replicate (ds.length + q) (-1001)).map fun n => Value.int .i64 n) rfl (World.ownsRow.alloc (w := W2) hOw _) ⟨W2.heap.size, 0, none⟩ 1 1 _ rfl rfl (World.news_of_block (heap_alloc_new W2 _)) (by intro y hy; simp at hy; subst hy; rfl) hroom ?_; intro w3 hown3 hgrow3)
              obtain ⟨hb3, hc3, ht3⟩ := list_room rfl hbl hb2 ht2 hg1 hBg hown3 hgrow3
              clear hown3 hgrow3 hb2 ht2 hg1 hOw
              go_wp2_with fail
              go_roundw
              case rel => exact ⟨q + 1, _, _, by omega, by go_num, by simp [hvs], hb3, hc3, ht3⟩
              case measure => simp [intOf]; omega
            · have hA3 : ∀ o (b : Addr), some (⟨g1, 0, none⟩ : Addr) = some b → ∀ j x, ((List.replicate (ds.length + q) (-1001)).map fun n => Value.int .i64 n)[j]? = some x → (W2.alloc o).cell? (b.add j) = some x := by
                rintro o b ⟨⟩ j x hx
                have hj : j < ds.length + q := by
                  by_cases h : j < ds.length + q
                  · exact h
                  · rw [List.getElem?_eq_none (by simp; omega)] at hx; cases hx
                rw [List.map_replicate, List.getElem?_replicate, if_pos hj] at hx
                have ea : (⟨g1, 0, none⟩ : Addr).add j = ⟨g1, j, none⟩ := by cases j <;> simp [Addr.add]
                rw [ea]
                unfold World.cell?
                rw [Below.heap_alloc _ _ _ (lt_of_cells hg1), hg1]
                simp [hcs1 j hj, ← hx]
              clear hk0 hk1 hcs1 hc2
              go_wp2_with (at_builtin; refine wpList_append_grows _ rfl (.tmp 48) (.tmp 50) 30 rfl 3 i0 (.int .i64 0) 1 8 Tryd.underlying30 hi hz0 hz1 hz2 rfl (by decide) (some ⟨g1, 0, none⟩) (ds.length + q) lc ((List.replicate (ds.length + q) (-1001)).map fun n => Value.int .i64 n) rfl (by simp) (by simp) (hA3 _) ⟨W2.heap.size, 0, none⟩ 1 1 _ rfl rfl (World.news_of_block (heap_alloc_new W2 _)) (by intro y hy; simp at hy; subst hy; rfl) (by omega) (by unfold maxLen; omega) (by omega) ?_; intro v3 w3 hown3 hgrow3)
              obtain ⟨hb3, hc3, ht3⟩ := list_grows rfl hbl hb2 ht2 (by simp; omega) hown3 hgrow3
              clear hown3 hgrow3 hb2 ht2 hg1 hA3
              go_wp2_with fail
              go_roundw
              case rel => exact ⟨q + 1, _, _, by omega, by go_num, by simp [hvs], hb3, hc3, ht3⟩
              case measure => simp [intOf]; omega
        · obtain rfl : q = 4 := by omega
          go_wp2
          exact bodyPost_end (results_none rfl _ _ _) rfl ⟨rfl, ⟨vs, u, hvs, hb⟩, ht⟩
end Go.Proofs.YtddcbeeldjjmeaaDoor.Tw
