/- What a reader's step leaves of the world; the. -/
import Derived.Test.YtddcbeeldjjmeaaGreatProg
import Derived.Handy
import Derived.BigQuiet
import Derived.Lib.AppendStr
import Derived.Lib.BufferWrite
import Derived.Lib.MinMax
import Derived.WalkSpells
import Derived.Lib.Strings
import Derived.Test.YtddcbeeldjjmeaaGreatPart16
import Derived.RegionTactic
namespace Go.Proofs.YtddcbeeldjjmeaaGreat.Tw
open Go.RowKit Go.Proofs.YtddcbeeldjjmeaaGreat.Pu
set_option linter.unusedVariables false
set_option linter.unusedSimpArgs false
def S (l : List UInt8) : ByteArray := ⟨l.toArray⟩
theorem S_size (l : List UInt8) : (S l).size = l.length := by simp [S, ByteArray.size]
theorem S_list (l : List UInt8) : (S l).data.toList = l := by simp [S]
theorem S_of (s : ByteArray) : S s.data.toList = s := by cases s; simp [S]
structure Adv (a : Addr) (l' : List UInt8) (w w' : World) : Prop where
 os : w'.os = w.os
 tape : w'.tape = w.tape
 output : w'.output = w.output
 size : w.heap.size <= w'.heap.size
 block : ∀ k, k < w.heap.size -> k ≠ a.block -> w'.heap[k]? = w.heap[k]?
 rest : w'.cell? a = some (.string (S l'))
 mark : w'.frozen? a = false
theorem cell_lt {w : World} {a : Addr} {v : Value} (h : w.cell? a = some v) : a.block < w.heap.size := by
 by_cases hb : a.block < w.heap.size
 . exact hb
 . have : w.heap[a.block]? = none := by simp; omega
   simp [World.cell?, this] at h
theorem below_set {B : Nat} {a w : World} (h : Below B a w) (b o : Nat) (v : Value) (hb : B <= b) : Below B a (w.setCell ⟨b, o, none⟩ v) := h.setCell (p := ⟨b, o, none⟩) hb v
theorem S_get (l : List UInt8) (i : Nat) (h : i < (S l).size) : (S l)[i]'h = l[i]'(by rw [S_size] at h; exact h) := by
 simp [S, ByteArray.getElem_eq_getElem_data]
def cellsB (l : List UInt8) : List Value := l.map fun c => Value.int .u8 c.toNat
def BRow (w : World) (g : Nat) (l : List UInt8) : Prop := w.heap[g]? = some (.cells (cellsB l).toArray 5 (0, 0))
theorem BRow.lt {w : World} {g : Nat} {l : List UInt8} (h : BRow w g l) : g < w.heap.size := by
 by_cases hb : g < w.heap.size
 . exact hb
 . have : w.heap[g]? = none := by simp; omega
   unfold BRow at h; rw [this] at h; cases h
theorem BRow.cell {w : World} {g : Nat} {l : List UInt8} (h : BRow w g l) (k : Nat) (hk : k < l.length) : w.cell? ⟨g, k, none⟩ = some (.int .u8 (l[k]'hk).toNat) := by
 unfold BRow at h
 simp [World.cell?, h, cellsB, hk]
theorem BRow.mark {w : World} {g : Nat} {l : List UInt8} (h : BRow w g l) (k : Nat) : w.frozen? ⟨g, k, none⟩ = false := by
 unfold BRow at h
 simp [World.frozen?, h]
theorem BRow.set {w : World} {g : Nat} {l : List UInt8} (h : BRow w g l) (k : Nat) (c : UInt8) (x : Int) (e : x = c.toNat) : BRow (w.setCell ⟨g, k, none⟩ (.int .u8 x)) g (l.set k c) := by
 unfold BRow at h ⊢
 subst e
 have hg := BRow.lt h
 simp [World.setCell, Array.getElem?_modify, h, cellsB, List.map_set]
theorem cellsB_rep (n : Nat) : madeCells (Value.int .u8 0).cells n = (cellsB (List.replicate n 0)).toArray := by
 apply Array.ext'
 apply List.ext_getElem
 . simp [madeCells, cellsB, Value.cells]
 . intro i h1 h2
   simp [madeCells, cellsB, Value.cells, Nat.mod_one]
theorem BRow.new (w : World) (n : Nat) : BRow (w.alloc (.cells (madeCells (Value.int .u8 0).cells n) 5)) w.heap.size (List.replicate n 0) := by
 unfold BRow
 rw [cellsB_rep]
 exact heap_alloc_new w _
def nodeV (n : Nd) : Value := .agg #[.int .i64 n.kind, .string (S n.path), .string (S n.value), .int .i64 n.left, .int .i64 n.right]
theorem u8info : (Tryz.prog.info? 5).map (fun i => (i.zero, i.size, i.bytes)) = some (some (.int .u8 0), 1, 1) := by kernel_rfl
def Own (base : Nat) (w : World) (v : Value) (l : List UInt8) : Prop := w.ownsRow base 5 1 v l.length (cellsB l)
def Adds (base : Nat) (w : World) (l : List UInt8) (e : Ending) (w' : World) : Prop := ∃ v, e = .returned v /\ Own base w' v l /\ Below base w w'
theorem eNumF_lt (f m : Nat) (h : m < 128) : eNumF (f + 1) m = [b8 m] := by unfold eNumF; rw [if_pos h]
theorem eNumF_ge (f m : Nat) (h : ¬ m < 128) : eNumF (f + 1) m = b8 (128 + m % 128) :: eNumF f (m / 128) := by rw [eNumF, if_neg h]
theorem cellsB_append (a b : List UInt8) : cellsB (a ++ b) = cellsB a ++ cellsB b := by simp [cellsB]
theorem eNumF_len (f m : Nat) : (eNumF f m).length <= f := by
 induction f generalizing m with
 | zero => simp [eNumF]
 | succ f ih =>
   by_cases h : m < 128
   . rw [eNumF_lt f m h]; simp
   . rw [eNumF_ge f m h, List.length_cons]; have := ih (m / 128); omega
theorem cellsB_snoc (l : List UInt8) (c : UInt8) : cellsB l ++ [.int .u8 c.toNat] = cellsB (l ++ [c]) := by simp [cellsB]
theorem Own.block {base : Nat} {w : World} {v : Value} {l : List UInt8} (h : Own base w v l) : ∀ k, v.ownBlock = some k -> base <= k := by
 intro k hk
 obtain ⟨_, ⟨rfl, _⟩ | ⟨g, cap, cur, rfl, hg, _⟩⟩ := h
 . simp [Value.ownBlock] at hk
 . simp [Value.ownBlock] at hk; omega
theorem Own.snoc {base : Nat} {w1 : World} {v' : Value} {l : List UInt8} {x : Int} (c : UInt8) (hx : x = c.toNat) (h : w1.ownsRow base 5 1 v' (l.length + 1) (cellsB l ++ [.int .u8 x])) : Own base w1 v' (l ++ [c]) := by
 unfold Own
 subst hx
 rw [cellsB_snoc] at h
 rw [List.length_append]
 exact h
theorem low7 (m : Nat) (hm : m < 268435456) : (Go.bits .or .i64 (Go.bits .and .i64 (m : Int) 127) 128) % 256 = ((b8 (128 + m % 128)).toNat : Int) := by
 rw [i64_and127, show ((m : Int) % 128) = ((m % 128 : Nat) : Int) from by omega, show (128 : Int) = ((128 : Nat) : Int) from rfl, i64_or_nat _ _ (by omega) (by omega), Nat.or_comm, nat_join 7 128 (m % 128) (by decide) (by omega), b8_toNat _ (by omega)]
 omega
set_option maxRecDepth 20000 in
set_option maxHeartbeats 400000 in
theorem addNumber_any (base : Nat) (v : Value) (l : List UInt8) (n : Nat) (w : World) (hn : n < 268435456) (hl : l.length <= 1000) (hown : Own base w v l) (hbase : base <= w.heap.size) :
   Calls Tryz.prog 112 #[v, .int .i64 n] w fun e w' => Adds base w (l ++ eNum n) e w' := by
 obtain ⟨i0, hi, hz0, hz1, hz2⟩ := info_parts u8info
 go_enter Tryz.func112, Tryz.ntmps112
 go_wp2
 go_loopw [0, 1] (fun v x wr => ∃ (l' : List UInt8) (m f : Nat), l' ++ eNumF f m = l ++ eNum n /\ m < 128 ^ f /\ 1 <= f /\ m < 268435456 /\ l'.length + f <= 1010 /\ Own base wr v l' /\ Below base w wr /\ base <= wr.heap.size /\ x = .int .i64 m) (fun _ x _ => (intOf x).toNat)
 case atStart => exact ⟨l, n, 10, rfl, by omega, by omega, hn, by omega, hown, Below.refl _ _, hbase, rfl⟩
 case round =>
   obtain ⟨l', m, f, he, hm, hf, hm28, hlen, hown', hb, hbr, rfl⟩ := hrel
   have HA : Hid (l' ++ eNumF f m = l ++ eNum n /\ m < 128 ^ f /\ 1 <= f) := ⟨he, hm, hf⟩
   clear he hm hf
   unfold Own at hown'
   by_cases hlt : m < 128
   . go_wp2_with (at_builtin; refine wpList_append_own _ rfl (.tmp 16) (.tmp 19) 93 rfl base 5 i0 (.int .u8 0) 1 1 Tryz.underlying93 hi hz0 hz1 hz2 rfl (by decide) _ _ _ rfl (hown'.alloc _) ⟨wr.heap.size, 0, none⟩ 1 1 _ rfl rfl (cell_one_new _ _ _) ?c2 ?c3 ?c4 ?c5 ?_)
     case c2 => intro u hu; simp at hu; subst hu; rfl
     case c3 => unfold maxLen; omega
     case c4 => omega
     case c5 => simp; omega
     . intro v' w1 hown1 hgrow _
       have hO := Own.snoc (b8 m) (by rw [b8_toNat m (by omega)]) hown1
       have hB := (hb.alloc hbr _).grown hgrow (by simp; omega) (Own.block hown')
       obtain ⟨he, hm, hf⟩ := HA.out
       obtain ⟨f, rfl⟩ : ∃ g, f = g + 1 := ⟨f - 1, by omega⟩
       rw [eNumF_lt f m hlt] at he
       rw [he] at hO
       clear he hm hown1 hgrow hown' hb
       go_wp2
       go_ret
       exact ⟨_, rfl, hO, hB⟩
   . have h127 : 127 < (m : Int) := by omega
     go_wp2_with (at_builtin; refine wpList_append_own _ rfl (.tmp 9) (.tmp 14) 93 rfl base 5 i0 (.int .u8 0) 1 1 Tryz.underlying93 hi hz0 hz1 hz2 rfl (by decide) _ _ _ rfl (hown'.alloc _) ⟨wr.heap.size, 0, none⟩ 1 1 _ rfl rfl (cell_one_new _ _ _) ?c2 ?c3 ?c4 ?c5 ?_)
     case c2 => intro u hu; simp at hu; subst hu; rfl
     case c3 => unfold maxLen; omega
     case c4 => omega
     case c5 => simp; omega
     . intro v' w1 hown1 hgrow _
       have hO := Own.snoc (b8 (128 + m % 128)) (low7 m hm28) hown1
       have hB := (hb.alloc hbr _).grown hgrow (by simp; omega) (Own.block hown')
       have hsz := hgrow.size
       have HO : Hid _ := hO
       have HB : Hid _ := hB
       have HZ : Hid _ := hsz
       clear hown1 hgrow hown' hb hO hB hsz
       go_wp2
       go_roundw
       case rel =>
         obtain ⟨he, hm, hf⟩ := HA.out
         obtain ⟨f, rfl⟩ : ∃ g, f = g + 1 := ⟨f - 1, by omega⟩
         rw [eNumF_ge f m hlt] at he
         have hf1 : 1 <= f := by
           rcases f with _ | f
           . simp at hm; omega
           . omega
         refine ⟨l' ++ [b8 (128 + m % 128)], m / 128, f, by rw [<- he]; simp, by rw [Nat.pow_succ] at hm; omega, hf1, by omega, by rw [List.length_append]; simp; omega, HO.out, HB.out, ?_, by go_num⟩
         have := HZ.out
         simp at this
         omega
       case measure => simp [intOf]; omega
theorem strCells_S (l : List UInt8) : Lib.strCells (S l) = cellsB l := by simp [Lib.strCells, cellsB, S]
set_option maxHeartbeats 400000 in
theorem addText_any (base : Nat) (v : Value) (l s : List UInt8) (w : World) (hs : s.length <= 1000) (hl : l.length <= 500) (hown : Own base w v l) (hbase : base <= w.heap.size) :
   Calls Tryz.prog 84 #[v, .string (S s)] w fun e w' => Adds base w (l ++ eNum s.length ++ s) e w' := by
 obtain ⟨i0, hi, hz0, hz1, hz2⟩ := info_parts u8info
 have hk := addNumber_any base v l s.length w (by omega) (by omega) hown hbase
 have hss := S_size s
 have hel : (eNum s.length).length <= 10 := eNumF_len 10 s.length
 go_enter Tryz.func84, Tryz.ntmps84
 go_wp2_with fail
 refine hk.mono ?_
 rintro e w1 ⟨v1, rfl, hO1, hB1⟩
 unfold Own at hO1
 go_wp2_with (at_builtin; refine Lib.wpList_append_own_string _ rfl (.tmp 8) (.tmp 9) 93 9 rfl base 5 i0 Tryz.underlying93 Tryz.underlying9 hi hz0 hz1 hz2 _ _ _ rfl hO1 _ rfl ?c3 ?c4 ?c5 ?_)
 case c3 => rw [hss, List.length_append]; unfold maxLen; omega
 case c4 => rw [hss, List.length_append]; omega
 case c5 => have := hB1.size; omega
 intro v' w2 hown2 hgrow _
 have hO : Own base w2 v' (l ++ eNum s.length ++ s) := by
   unfold Own
   rw [strCells_S] at hown2
   rw [List.length_append, List.length_append, cellsB_append]
   exact hown2
 have hB := hB1.grown hgrow (by have := hB1.size; omega) (Own.block hO1)
 clear hown2 hgrow hO1 hB1 hel
 go_wp2
 go_ret
 exact ⟨_, rfl, hO, hB⟩
theorem four_new (w : World) (a b c d : Value) (t : TypeId) : ∀ j u, [a, b, c, d][j]? = some u -> (w.alloc (.cells #[a, b, c, d] t)).cell? ((⟨w.heap.size, 0, none⟩ : Addr).add j) = some u := by
 intro j u hj
 match j, hj with
 | 0, hj => simp at hj; subst hj; simp [Addr.add]
 | 1, hj => simp at hj; subst hj; simp [Addr.add]
 | 2, hj => simp at hj; subst hj; simp [Addr.add]
 | 3, hj => simp at hj; subst hj; simp [Addr.add]
 | j + 4, hj => simp at hj
set_option maxHeartbeats 400000 in
theorem addFour_any (base : Nat) (v : Value) (l : List UInt8) (n : Int) (w : World) (h0 : 0 <= n) (hn : n < 4294967296) (hl : l.length <= 1000000) (hown : Own base w v l) (hbase : base <= w.heap.size) :
   Calls Tryz.prog 86 #[v, .int .i64 n] w fun e w' => Adds base w (l ++ e4 n.toNat) e w' := by
 obtain ⟨N, rfl⟩ := Int.eq_ofNat_of_zero_le h0
 obtain ⟨i0, hi, hz0, hz1, hz2⟩ := info_parts u8info
 have hown0 := hown
 unfold Own at hown
 go_enter Tryz.func86, Tryz.ntmps86
 go_wp2_with (at_builtin; refine wpList_append_own _ rfl (.tmp 5) (.tmp 17) 93 rfl base 5 i0 (.int .u8 0) 1 1 Tryz.underlying93 hi hz0 hz1 hz2 rfl (by decide) _ _ _ rfl (hown.alloc _) ⟨w.heap.size, 0, none⟩ 4 4 _ rfl rfl (four_new _ _ _ _ _ _) ?c2 ?c3 ?c4 ?c5 ?_)
 case c2 => intro u hu; simp at hu; rcases hu with rfl | rfl | rfl | rfl <;> rfl
 case c3 => unfold maxLen; omega
 case c4 => omega
 case c5 => simp; omega
 intro v' w1 hown1 hgrow _
 have hO : Own base w1 v' (l ++ e4 N) := by
   unfold Own
   have e : ∀ (x y z u : Int), x = ((b8 (N / 16777216 % 256)).toNat : Int) -> y = ((b8 (N / 65536 % 256)).toNat : Int) -> z = ((b8 (N / 256 % 256)).toNat : Int) -> u = ((b8 (N % 256)).toNat : Int) -> cellsB l ++ [Value.int .u8 x, .int .u8 y, .int .u8 z, .int .u8 u] = cellsB (l ++ e4 N) := by
     intro x y z u hx hy hz hu
     subst hx hy hz hu
     simp [cellsB, e4]
   rw [e _ _ _ _ (by rw [b8_toNat _ (by omega)]; omega) (by rw [b8_toNat _ (by omega)]; omega) (by rw [b8_toNat _ (by omega)]; omega) (by rw [b8_toNat _ (by omega)]; omega)] at hown1
   rw [List.length_append]
   exact hown1
 have hB := ((Below.refl _ w).alloc hbase _).grown hgrow (by simp; omega) (Own.block hown0)
 clear hown1 hgrow hown hown0
 go_wp2
 go_ret
 exact ⟨_, rfl, hO, hB⟩
theorem Own.keep {base : Nat} {w w' : World} {v : Value} {l : List UInt8} (h : Own base w v l) (k : ∀ j, j < w.heap.size -> w'.heap[j]? = w.heap[j]?) : Own base w' v l := by
 obtain ⟨h1, ⟨rfl, h2⟩ | ⟨g, cap, cur, rfl, hg, hb, h3⟩⟩ := h
 . exact ⟨h1, Or.inl ⟨rfl, h2⟩⟩
 . refine ⟨h1, Or.inr ⟨g, cap, cur, rfl, hg, ?_, h3⟩⟩
   have hlt : g < w.heap.size := by
     by_cases hb' : g < w.heap.size
     . exact hb'
     . have : w.heap[g]? = none := by simp; omega
       rw [this] at hb; cases hb
   rw [k g hlt]; exact hb
def packAt (s : List UInt8) (k : Nat) : List UInt8 := (List.range ((s.length + 7) / 8)).map fun j => b8 (packB (s.take k) j)
theorem packAt_length (s : List UInt8) (k : Nat) : (packAt s k).length = (s.length + 7) / 8 := by simp [packAt]
theorem packAt_zero (s : List UInt8) : packAt s 0 = List.replicate ((s.length + 7) / 8) 0 := by
 unfold packAt
 apply List.ext_getElem
 . simp
 . intro i h1 h2
   simp [packB, bit, b8]
theorem packAt_full (s : List UInt8) : packAt s s.length = pack s := by
 unfold packAt pack
 rw [List.take_length]
theorem packB_other (s : List UInt8) (k j : Nat) (h : j ≠ k / 8) : packB (s.take (k + 1)) j = packB (s.take k) j := by
 have hb : ∀ i, i ≠ k -> bit (s.take (k + 1)) i = bit (s.take k) i := by
   intro i hi
   rw [bit_take, bit_take]
   by_cases h1 : i < k
   . rw [if_pos h1, if_pos (by omega)]
   . rw [if_neg h1, if_neg (by omega)]
 unfold packB
 rw [hb _ (by omega), hb _ (by omega), hb _ (by omega), hb _ (by omega), hb _ (by omega), hb _ (by omega), hb _ (by omega), hb _ (by omega)]
theorem packB_step (s : List UInt8) (k : Nat) : packB (s.take k) (k / 8) % 2 ^ (8 - k % 8) = 0 /\ packB (s.take (k + 1)) (k / 8) = packB (s.take k) (k / 8) + bit s k * 2 ^ (7 - k % 8) := by
 have hk : k = 8 * (k / 8) + k % 8 := by omega
 have hr : k % 8 < 8 := by omega
 generalize hj : k / 8 = j at *
 generalize hq : k % 8 = r at *
 have h0 := bit_le s (8 * j); have h1 := bit_le s (8 * j + 1); have h2 := bit_le s (8 * j + 2); have h3 := bit_le s (8 * j + 3)
 have h4 := bit_le s (8 * j + 4); have h5 := bit_le s (8 * j + 5); have h6 := bit_le s (8 * j + 6); have h7 := bit_le s (8 * j + 7)
 subst hk
 have a0 : ∀ t, bit (s.take (8 * j + r)) (8 * j + t) = if t < r then bit s (8 * j + t) else 0 := fun t => by
   rw [bit_take]
   by_cases h : t < r
   . rw [if_pos h, if_pos (by omega)]
   . rw [if_neg h, if_neg (by omega)]
 have c0 : ∀ t, bit (s.take (8 * j + r + 1)) (8 * j + t) = if t < r + 1 then bit s (8 * j + t) else 0 := fun t => by
   rw [bit_take]
   by_cases h : t < r + 1
   . rw [if_pos h, if_pos (by omega)]
   . rw [if_neg h, if_neg (by omega)]
 have a00 : bit (s.take (8 * j + r)) (8 * j) = if 0 < r then bit s (8 * j) else 0 := a0 0
 have c00 : bit (s.take (8 * j + r + 1)) (8 * j) = if 0 < r + 1 then bit s (8 * j) else 0 := c0 0
 unfold packB
 rw [a00, a0 1, a0 2, a0 3, a0 4, a0 5, a0 6, a0 7, c00, c0 1, c0 2, c0 3, c0 4, c0 5, c0 6, c0 7]
 clear a0 c0 a00 c00
 match r, hr with
 | 0, _ => simp <;> omega
 | 1, _ => simp <;> omega
 | 2, _ => simp <;> omega
 | 3, _ => simp <;> omega
 | 4, _ => simp <;> omega
 | 5, _ => simp <;> omega
 | 6, _ => simp <;> omega
 | 7, _ => simp <;> omega
theorem packAt_set (s : List UInt8) (k : Nat) (hk : k < s.length) : (packAt s k).set (k / 8) (b8 (packB (s.take k) (k / 8) + bit s k * 2 ^ (7 - k % 8))) = packAt s (k + 1) := by
 apply List.ext_getElem?
 intro i
 rw [List.getElem?_set]
 unfold packAt
 by_cases hi : k / 8 = i
 . subst hi
   rw [if_pos rfl, if_pos (by simp; omega), List.getElem?_map, List.getElem?_range (by omega), Option.map_some, (packB_step s k).2]
 . rw [if_neg hi, List.getElem?_map, List.getElem?_map]
   by_cases hn : i < (s.length + 7) / 8
   . rw [List.getElem?_range hn, Option.map_some, Option.map_some, packB_other s k i (by omega)]
   . rw [List.getElem?_eq_none (by simp; omega), Option.map_none, Option.map_none]
theorem packAt_get (s : List UInt8) (k : Nat) (hk : k < s.length) : (packAt s k)[k / 8]? = some (b8 (packB (s.take k) (k / 8))) := by
 unfold packAt
 rw [List.getElem?_map, List.getElem?_range (by omega), Option.map_some]
theorem or_code (s : List UInt8) (k : Nat) (hP : isP s) (hk : k < s.length) (h : k < (S s).size) :
   Go.bits .or .u8 ((packB (s.take k) (k / 8) : Nat) : Int) ((((((S s)[k]'h).toNat : Nat) : Int) - 48) % 256 * 2 ^ (7 - k % 8) % 256) = ((b8 (packB (s.take k) (k / 8) + bit s k * 2 ^ (7 - k % 8))).toNat : Int) := by
 obtain ⟨hz, hs2⟩ := packB_step s k
 have hlt := packB_lt (s.take (k + 1)) (k / 8)
 have hx := packB_lt (s.take k) (k / 8)
 rw [hs2] at hlt
 have hb : ((((((S s)[k]'h).toNat : Nat) : Int) - 48) % 256) = ((bit s k : Nat) : Int) := by
   have hm := hP.1 s[k] (List.getElem_mem hk)
   rcases hm with e | e
   . have e1 : ((S s)[k]'h).toNat = 48 := by rw [S_get]; exact congrArg UInt8.toNat e
     have e2 : s[k]? = some 48 := by rw [List.getElem?_eq_getElem hk]; exact congrArg some e
     unfold bit
     rw [e1, e2]; rfl
   . have e1 : ((S s)[k]'h).toNat = 49 := by rw [S_get]; exact congrArg UInt8.toNat e
     have e2 : s[k]? = some 49 := by rw [List.getElem?_eq_getElem hk]; exact congrArg some e
     unfold bit
     rw [e1, e2]; rfl
 have hb1 := bit_le s k
 rw [hb, b8_toNat _ hlt]
 generalize bit s k = q at *
 generalize packB (s.take k) (k / 8) = x at *
 have hp : 2 ^ (7 - k % 8) <= 128 := by
   have := Nat.pow_le_pow_right (n := 2) (by decide : 2 > 0) (by omega : 7 - k % 8 <= 7)
   simpa using this
 have hq : q * 2 ^ (7 - k % 8) <= 128 := by
   rcases (by omega : q = 0 \/ q = 1) with rfl | rfl
   . simp
   . simpa using hp
 have e1 : ((q : Nat) : Int) * 2 ^ (7 - k % 8) % 256 = ((q * 2 ^ (7 - k % 8) : Nat) : Int) := by
   rw [show ((q : Nat) : Int) * 2 ^ (7 - k % 8) = ((q * 2 ^ (7 - k % 8) : Nat) : Int) from by simp]
   omega
 rw [e1, u8_or_nat x (q * 2 ^ (7 - k % 8)) hx (by omega)]
 congr 1
 refine nat_join (8 - k % 8) x _ hz ?_
 have h2 : 2 ^ (8 - k % 8) = 2 ^ (7 - k % 8) * 2 := by rw [<- Nat.pow_succ]; congr 1; omega
 have hpos := Nat.one_le_two_pow (n := 7 - k % 8)
 rw [h2]
 rcases (by omega : q = 0 \/ q = 1) with rfl | rfl
 . simp; omega
 . simp; omega
set_option maxRecDepth 20000 in
set_option maxHeartbeats 1000000 in
theorem addPath_any (base : Nat) (v : Value) (l s : List UInt8) (w : World) (hs : isP s) (hl : l.length <= 500) (hown : Own base w v l) (hbase : base <= w.heap.size) :
   Calls Tryz.prog 85 #[v, .string (S s)] w fun e w' => Adds base w (l ++ ePath s) e w' := by
 have h37 := hs.2
 obtain ⟨i0, hi, hz0, hz1, hz2⟩ := info_parts u8info
 have hk := addNumber_any base v l s.length w (by omega) (by omega) hown hbase
 have hss := S_size s
 have hel : (eNum s.length).length <= 10 := eNumF_len 10 s.length
 obtain ⟨K, hK⟩ : ∃ K, K = (s.length + 7) / 8 := ⟨_, rfl⟩
 have hK5 : K <= 5 := by omega
 obtain ⟨M, hM⟩ : ∃ M, M = madeCells (Value.int .u8 0).cells K := ⟨_, rfl⟩
 have hmk : ∀ W : World, (Instr.makeSlice 93 (.int .i64 (((s.length : Int) + 7) / 8)) (.int .i64 (((s.length : Int) + 7) / 8))).run Tryz.prog W = .ok (.slice (some ⟨W.heap.size, 0, none⟩) K K) (W.alloc (.cells M 5)) := fun W => by
   have h := run_make (P := Tryz.prog) W 93 5 i0 (.int .u8 0) Tryz.underlying93 hi hz0 .i64 .i64 (((s.length : Int) + 7) / 8) (((s.length : Int) + 7) / 8) (by omega) (by omega) (by rw [hz2]; omega) (by omega)
   rw [hz1, show (((s.length : Int) + 7) / 8).toNat = K from by omega, Nat.mul_one, <- hM] at h
   exact h
 have HM : Hid _ := hM
 have HK : Hid _ := hK
 clear hM hK
 go_enter Tryz.func85, Tryz.ntmps85
 go_wp2_with fail
 refine hk.mono ?_
 rintro e w1 ⟨v1, rfl, hO1, hB1⟩
 go_wp2_with fail
 obtain ⟨g, hg⟩ : ∃ g, g = w1.heap.size := ⟨_, rfl⟩
 obtain ⟨wm, hwm⟩ : ∃ wm, wm = w1.alloc (.cells M 5) := ⟨_, rfl⟩
 have hrow : BRow wm g (packAt s 0) := by rw [hwm, hg, packAt_zero, HM.out, HK.out]; exact BRow.new w1 _
 have hBg : Below g w1 wm := by rw [hwm, hg]; exact (Below.refl _ w1).alloc (Nat.le_refl _) _
 have hbg : base <= g := by have := hB1.size; omega
 have hg1 : Hid (g = w1.heap.size) := hg
 rw [<- hwm, <- hg]
 clear hg hwm hmk hk hown
 go_loopw [18] (fun i wr => ∃ k : Nat, k <= s.length /\ i = .int .i64 k /\ BRow wr g (packAt s k) /\ Below g w1 wr) (fun i _ => s.length - (intOf i).toNat)
 case atStart => exact ⟨0, by omega, rfl, hrow, hBg⟩
 case round =>
   obtain ⟨k, hk, rfl, hrow', hb5⟩ := hrel
   by_cases hlt : k < s.length
   . have hmk := hrow'.mark (k / 8)
     have hpk : k / 8 < K := by have := HK.out; omega
     have hpl := packAt_length s k
     obtain ⟨x, hx⟩ : ∃ x, x = packB (s.take k) (k / 8) := ⟨_, rfl⟩
     have hcl : wr.cell? ⟨g, k / 8, none⟩ = some (.int .u8 (x : Nat)) := by
       have hlen : k / 8 < (packAt s k).length := by rw [hpl]; omega
       have h1 := hrow'.cell (k / 8) hlen
       have h2 := packAt_get s k hlt
       rw [List.getElem?_eq_getElem hlen] at h2
       rw [h1, Option.some.inj h2, b8_toNat _ (packB_lt _ _), hx]
     have HX : Hid _ := hx
     clear hx hpl
     go_wp2
     go_region
     go_wp2
     go_roundw
     case rel =>
       refine ⟨k + 1, by omega, by go_num, ?_, ?_⟩
       . rw [<- packAt_set s k hlt]
         have hxx := HX.out
         subst hxx
         exact hrow'.set (k / 8) _ _ (or_code s k hs hlt _)
       . exact (below_set hb5 _ _ _ (Nat.le_refl _)).drew
     case measure => simp [intOf]; omega
   . obtain rfl : k = s.length := by omega
     rw [packAt_full] at hrow'
     have hO2 : Own base wr v1 (l ++ eNum s.length) := hO1.keep fun j hj => hb5.block j (by rw [hg1.out]; exact hj)
     have hpl : (pack s).length = K := by rw [pack_length, HK.out]
     have hnews : ∀ j u, (cellsB (pack s))[j]? = some u -> wr.cell? ((⟨g, 0, none⟩ : Addr).add j) = some u := by
       intro j u hj
       unfold cellsB at hj
       rw [List.getElem?_map] at hj
       cases hp : (pack s)[j]? with
       | none => rw [hp] at hj; cases hj
       | some c =>
         rw [hp] at hj
         have hlj : j < (pack s).length := by
           by_cases h : j < (pack s).length
           . exact h
           . rw [List.getElem?_eq_none (by omega)] at hp; cases hp
         have hc := hrow'.cell j hlj
         rw [List.getElem?_eq_getElem hlj] at hp
         rw [Option.some.inj hp] at hc
         simp only [Option.map_some, Option.some.injEq] at hj
         have ea : (⟨g, 0, none⟩ : Addr).add j = ⟨g, j, none⟩ := by cases j <;> simp [Addr.add]
         rw [<- hj, <- hc, ea]
     have hgz : w1.heap.size <= wr.heap.size := hb5.size
     have hone : ∀ u, u ∈ cellsB (pack s) -> u.oneCell' = true := by
       intro u hu
       unfold cellsB at hu
       obtain ⟨c, _, rfl⟩ := List.mem_map.1 hu
       rfl
     have hO2' := hO2
     unfold Own at hO2
     go_wp2_with (at_builtin; refine wpList_append_own _ rfl (.tmp 37) (.tmp 38) 93 rfl base 5 i0 (.int .u8 0) 1 1 Tryz.underlying93 hi hz0 hz1 hz2 rfl (by decide) _ _ _ rfl hO2 ⟨g, 0, none⟩ K K (cellsB (pack s)) rfl ?c1 hnews hone ?c3 ?c4 ?c5 ?_)
     case c1 => simp [cellsB, hpl]
     case c3 => rw [List.length_append]; unfold maxLen; omega
     case c4 => rw [List.length_append]; omega
     case c5 => have := hB1.size; omega
     intro v' w2 hown2 hgrow _
     have hO : Own base w2 v' (l ++ ePath s) := by
       unfold Own ePath
       rw [<- cellsB_append] at hown2
       rw [<- List.append_assoc, List.length_append, List.length_append, hpl]
       exact hown2
     have hB := (hB1.trans (hb5.mono hbg)).grown hgrow (by have := hB1.size; omega) (Own.block hO2')
     clear hown2 hgrow hO1 hB1 hel hO2 hO2' hnews hone hb5 hrow'
     go_wp2
     go_ret
     exact ⟨_, rfl, hO, hB⟩
end Go.Proofs.YtddcbeeldjjmeaaGreat.Tw
