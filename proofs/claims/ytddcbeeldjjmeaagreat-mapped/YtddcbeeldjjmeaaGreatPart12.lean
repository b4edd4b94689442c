/- What the program writes: numbers, paths, texts, four bytes, each behind the bytes that lie there. -/
import Derived.Test.YtddcbeeldjjmeaaGreatPart11
import Derived.Deep.RegionWith
import Derived.WalkKit
import Derived.Test.YtddcbeeldjjmeaaGreatProg
import Derived.Handy
import Derived.BigQuiet
import Derived.Lib.MinMax
namespace Go.Proofs.YtddcbeeldjjmeaaGreat.Tw
open Go.RowKit Go.Proofs.YtddcbeeldjjmeaaGreat.Pu
set_option linter.unusedVariables false
set_option linter.unusedSimpArgs false
def Own (base : Nat) (w : World) (v : Value) (l : List UInt8) : Prop := w.ownsRow base 5 1 v l.length (cellsB l)
def Adds (base : Nat) (w : World) (l : List UInt8) (e : Ending) (w' : World) : Prop := ∃ v, e = .returned v /\ Own base w' v l /\ Below base w w'
theorem eNumF_lt (f m : Nat) (h : m < 128) : eNumF (f + 1) m = [b8 m] := by unfold eNumF; rw [if_pos h]
theorem eNumF_ge (f m : Nat) (h : ¬ m < 128) : eNumF (f + 1) m = b8 (128 + m % 128) :: eNumF f (m / 128) := by rw [eNumF, if_neg h]
theorem cellsB_append (a b : List UInt8) : cellsB (a ++ b) = cellsB a ++ cellsB b := by simp [cellsB]
theorem eNumF_len (f m : Nat) : (eNumF f m).length <= f := by
 induction f generalizing m with
 | zero => simp [eNumF]
 | succ f ih =>
   by_cases h : m < 128
   · rw [eNumF_lt f m h]; simp
   · rw [eNumF_ge f m h, List.length_cons]; have := ih (m / 128); omega
theorem cellsB_snoc (l : List UInt8) (c : UInt8) : cellsB l ++ [.int .u8 c.toNat] = cellsB (l ++ [c]) := by simp [cellsB]
theorem Own.block {base : Nat} {w : World} {v : Value} {l : List UInt8} (h : Own base w v l) : ∀ k, v.ownBlock = some k -> base <= k := by
 intro k hk
 obtain ⟨_, ⟨rfl, _⟩ | ⟨g, cap, cur, rfl, hg, _⟩⟩ := h
 · simp [Value.ownBlock] at hk
 · simp [Value.ownBlock] at hk; omega
theorem Own.snoc {base : Nat} {w1 : World} {v' : Value} {l : List UInt8} {x : Int} (c : UInt8) (hx : x = c.toNat) (h : w1.ownsRow base 5 1 v' (l.length + 1) (cellsB l ++ [.int .u8 x])) : Own base w1 v' (l ++ [c]) := by
 unfold Own
 subst hx
 rw [cellsB_snoc] at h
 rw [List.length_append]
 exact h
theorem low7 (m : Nat) (hm : m < 268435456) : (Go.bits .or .i64 (Go.bits .and .i64 (m : Int) 127) 128) % 256 = ((b8 (128 + m % 128)).toNat : Int) := by
 rw [i64_and127, show ((m : Int) % 128) = ((m % 128 : Nat) : Int) from by omega, show (128 : Int) = ((128 : Nat) : Int) from rfl, i64_or_nat _ _ (by omega) (by omega), Nat.or_comm, nat_join 7 128 (m % 128) (by decide) (by omega), b8_toNat _ (by omega)]
 omega
set_option maxRecDepth 20000 in
set_option maxHeartbeats 400000 in
theorem addNumber_any (base : Nat) (v : Value) (l : List UInt8) (n : Nat) (w : World) (hn : n < 268435456) (hl : l.length <= 1000) (hown : Own base w v l) (hbase : base <= w.heap.size) :
   Calls Tryz.prog 112 #[v, .int .i64 n] w fun e w' => Adds base w (l ++ eNum n) e w' := by
 obtain ⟨i0, hi, hz0, hz1, hz2⟩ := info_parts u8info
 go_enter Tryz.func112, Tryz.ntmps112
 go_wp2
 go_loopw [0, 1] (fun v x wr => ∃ (l' : List UInt8) (m f : Nat), l' ++ eNumF f m = l ++ eNum n /\ m < 128 ^ f /\ 1 <= f /\ m < 268435456 /\ l'.length + f <= 1010 /\ Own base wr v l' /\ Below base w wr /\ base <= wr.heap.size /\ x = .int .i64 m) (fun _ x _ => (intOf x).toNat)
 case atStart => exact ⟨l, n, 10, rfl, by omega, by omega, hn, by omega, hown, Below.refl _ _, hbase, rfl⟩
 case round =>
   obtain ⟨l', m, f, he, hm, hf, hm28, hlen, hown', hb, hbr, rfl⟩ := hrel
   have HA : Hid (l' ++ eNumF f m = l ++ eNum n /\ m < 128 ^ f /\ 1 <= f) := ⟨he, hm, hf⟩
   clear he hm hf
   unfold Own at hown'
   by_cases hlt : m < 128
   · go_wp2_with (at_builtin; refine wpList_append_own _ rfl (.tmp 16) (.tmp 19) 93 rfl base 5 i0 (.int .u8 0) 1 1 Tryz.underlying93 hi hz0 hz1 hz2 rfl (by decide) _ _ _ rfl (hown'.alloc _) ⟨wr.heap.size, 0, none⟩ 1 1 _ rfl rfl (cell_one_new _ _ _) ?c2 ?c3 ?c4 ?c5 ?_)
     case c2 => intro u hu; simp at hu; subst hu; rfl
     case c3 => unfold maxLen; omega
     case c4 => omega
     case c5 => simp; omega
     · intro v' w1 hown1 hgrow _
       have hO := Own.snoc (b8 m) (by rw [b8_toNat m (by omega)]) hown1
       have hB := (hb.alloc hbr _).grown hgrow (by simp; omega) (Own.block hown')
       obtain ⟨he, hm, hf⟩ := HA.out
       obtain ⟨f, rfl⟩ : ∃ g, f = g + 1 := ⟨f - 1, by omega⟩
       rw [eNumF_lt f m hlt] at he
       rw [he] at hO
       clear he hm hown1 hgrow hown' hb
       go_wp2
       go_ret
       exact ⟨_, rfl, hO, hB⟩
   · have h127 : 127 < (m : Int) := by omega
     go_wp2_with (at_builtin; refine wpList_append_own _ rfl (.tmp 9) (.tmp 14) 93 rfl base 5 i0 (.int .u8 0) 1 1 Tryz.underlying93 hi hz0 hz1 hz2 rfl (by decide) _ _ _ rfl (hown'.alloc _) ⟨wr.heap.size, 0, none⟩ 1 1 _ rfl rfl (cell_one_new _ _ _) ?c2 ?c3 ?c4 ?c5 ?_)
     case c2 => intro u hu; simp at hu; subst hu; rfl
     case c3 => unfold maxLen; omega
     case c4 => omega
     case c5 => simp; omega
     · intro v' w1 hown1 hgrow _
       have hO := Own.snoc (b8 (128 + m % 128)) (low7 m hm28) hown1
       have hB := (hb.alloc hbr _).grown hgrow (by simp; omega) (Own.block hown')
       have hsz := hgrow.size
       have HO : Hid _ := hO
       have HB : Hid _ := hB
       have HZ : Hid _ := hsz
       clear hown1 hgrow hown' hb hO hB hsz
       go_wp2
       go_roundw
       case rel =>
         obtain ⟨he, hm, hf⟩ := HA.out
         obtain ⟨f, rfl⟩ : ∃ g, f = g + 1 := ⟨f - 1, by omega⟩
         rw [eNumF_ge f m hlt] at he
         have hf1 : 1 <= f := by
           rcases f with _ | f
           · simp at hm; omega
           · omega
         refine ⟨l' ++ [b8 (128 + m % 128)], m / 128, f, by rw [<- he]; simp, by rw [Nat.pow_succ] at hm; omega, hf1, by omega, by rw [List.length_append]; simp; omega, HO.out, HB.out, ?_, by go_num⟩
         have := HZ.out
         simp at this
         omega
       case measure => simp [intOf]; omega
theorem strCells_S (l : List UInt8) : Lib.strCells (S l) = cellsB l := by simp [Lib.strCells, cellsB, S]
set_option maxHeartbeats 400000 in
theorem addText_any (base : Nat) (v : Value) (l s : List UInt8) (w : World) (hs : s.length <= 1000) (hl : l.length <= 500) (hown : Own base w v l) (hbase : base <= w.heap.size) :
   Calls Tryz.prog 84 #[v, .string (S s)] w fun e w' => Adds base w (l ++ eNum s.length ++ s) e w' := by
 obtain ⟨i0, hi, hz0, hz1, hz2⟩ := info_parts u8info
 have hk := addNumber_any base v l s.length w (by omega) (by omega) hown hbase
 have hss := S_size s
 have hel : (eNum s.length).length <= 10 := eNumF_len 10 s.length
 go_enter Tryz.func84, Tryz.ntmps84
 go_wp2_with fail
 refine hk.mono ?_
 rintro e w1 ⟨v1, rfl, hO1, hB1⟩
 unfold Own at hO1
 go_wp2_with (at_builtin; refine Lib.wpList_append_own_string _ rfl (.tmp 8) (.tmp 9) 93 9 rfl base 5 i0 Tryz.underlying93 Tryz.underlying9 hi hz0 hz1 hz2 _ _ _ rfl hO1 _ rfl ?c3 ?c4 ?c5 ?_)
 case c3 => rw [hss, List.length_append]; unfold maxLen; omega
 case c4 => rw [hss, List.length_append]; omega
 case c5 => have := hB1.size; omega
 intro v' w2 hown2 hgrow _
 have hO : Own base w2 v' (l ++ eNum s.length ++ s) := by
   unfold Own
   rw [strCells_S] at hown2
   rw [List.length_append, List.length_append, cellsB_append]
   exact hown2
 have hB := hB1.grown hgrow (by have := hB1.size; omega) (Own.block hO1)
 clear hown2 hgrow hO1 hB1 hel
 go_wp2
 go_ret
 exact ⟨_, rfl, hO, hB⟩
theorem four_new (w : World) (a b c d : Value) (t : TypeId) : ∀ j u, [a, b, c, d][j]? = some u -> (w.alloc (.cells #[a, b, c, d] t)).cell? ((⟨w.heap.size, 0, none⟩ : Addr).add j) = some u := by
 intro j u hj
 match j, hj with
 | 0, hj => simp at hj; subst hj; simp [Addr.add]
 | 1, hj => simp at hj; subst hj; simp [Addr.add]
 | 2, hj => simp at hj; subst hj; simp [Addr.add]
 | 3, hj => simp at hj; subst hj; simp [Addr.add]
 | j + 4, hj => simp at hj
set_option maxHeartbeats 400000 in
theorem addFour_any (base : Nat) (v : Value) (l : List UInt8) (n : Int) (w : World) (h0 : 0 <= n) (hn : n < 4294967296) (hl : l.length <= 1000000) (hown : Own base w v l) (hbase : base <= w.heap.size) :
   Calls Tryz.prog 86 #[v, .int .i64 n] w fun e w' => Adds base w (l ++ e4 n.toNat) e w' := by
 obtain ⟨N, rfl⟩ := Int.eq_ofNat_of_zero_le h0
 obtain ⟨i0, hi, hz0, hz1, hz2⟩ := info_parts u8info
 have hown0 := hown
 unfold Own at hown
 go_enter Tryz.func86, Tryz.ntmps86
 go_wp2_with (at_builtin; refine wpList_append_own _ rfl (.tmp 5) (.tmp 17) 93 rfl base 5 i0 (.int .u8 0) 1 1 Tryz.underlying93 hi hz0 hz1 hz2 rfl (by decide) _ _ _ rfl (hown.alloc _) ⟨w.heap.size, 0, none⟩ 4 4 _ rfl rfl (four_new _ _ _ _ _ _) ?c2 ?c3 ?c4 ?c5 ?_)
 case c2 => intro u hu; simp at hu; rcases hu with rfl | rfl | rfl | rfl <;> rfl
 case c3 => unfold maxLen; omega
 case c4 => omega
 case c5 => simp; omega
 intro v' w1 hown1 hgrow _
 have hO : Own base w1 v' (l ++ e4 N) := by
   unfold Own
   have e : ∀ (x y z u : Int), x = ((b8 (N / 16777216 % 256)).toNat : Int) -> y = ((b8 (N / 65536 % 256)).toNat : Int) -> z = ((b8 (N / 256 % 256)).toNat : Int) -> u = ((b8 (N % 256)).toNat : Int) -> cellsB l ++ [Value.int .u8 x, .int .u8 y, .int .u8 z, .int .u8 u] = cellsB (l ++ e4 N) := by
     intro x y z u hx hy hz hu
     subst hx hy hz hu
     simp [cellsB, e4]
   rw [e _ _ _ _ (by rw [b8_toNat _ (by omega)]; omega) (by rw [b8_toNat _ (by omega)]; omega) (by rw [b8_toNat _ (by omega)]; omega) (by rw [b8_toNat _ (by omega)]; omega)] at hown1
   rw [List.length_append]
   exact hown1
 have hB := ((Below.refl _ w).alloc hbase _).grown hgrow (by simp; omega) (Own.block hown0)
 clear hown1 hgrow hown hown0
 go_wp2
 go_ret
 exact ⟨_, rfl, hO, hB⟩
theorem Own.keep {base : Nat} {w w' : World} {v : Value} {l : List UInt8} (h : Own base w v l) (k : ∀ j, j < w.heap.size -> w'.heap[j]? = w.heap[j]?) : Own base w' v l := by
 obtain ⟨h1, ⟨rfl, h2⟩ | ⟨g, cap, cur, rfl, hg, hb, h3⟩⟩ := h
 · exact ⟨h1, Or.inl ⟨rfl, h2⟩⟩
 · refine ⟨h1, Or.inr ⟨g, cap, cur, rfl, hg, ?_, h3⟩⟩
   have hlt : g < w.heap.size := by
     by_cases hb' : g < w.heap.size
     · exact hb'
     · have : w.heap[g]? = none := by simp; omega
       rw [this] at hb; cases hb
   rw [k g hlt]; exact hb
def packAt (s : List UInt8) (k : Nat) : List UInt8 := (List.range ((s.length + 7) / 8)).map fun j => b8 (packB (s.take k) j)
theorem packAt_length (s : List UInt8) (k : Nat) : (packAt s k).length = (s.length + 7) / 8 := by simp [packAt]
theorem packAt_zero (s : List UInt8) : packAt s 0 = List.replicate ((s.length + 7) / 8) 0 := by
 unfold packAt
 apply List.ext_getElem
 · simp
 · intro i h1 h2
   simp [packB, bit, b8]
theorem packAt_full (s : List UInt8) : packAt s s.length = pack s := by
 unfold packAt pack
 rw [List.take_length]
theorem packB_other (s : List UInt8) (k j : Nat) (h : j ≠ k / 8) : packB (s.take (k + 1)) j = packB (s.take k) j := by
 have hb : ∀ i, i ≠ k -> bit (s.take (k + 1)) i = bit (s.take k) i := by
   intro i hi
   rw [bit_take, bit_take]
   by_cases h1 : i < k
   · rw [if_pos h1, if_pos (by omega)]
   · rw [if_neg h1, if_neg (by omega)]
 unfold packB
 rw [hb _ (by omega), hb _ (by omega), hb _ (by omega), hb _ (by omega), hb _ (by omega), hb _ (by omega), hb _ (by omega), hb _ (by omega)]
theorem packB_step (s : List UInt8) (k : Nat) : packB (s.take k) (k / 8) % 2 ^ (8 - k % 8) = 0 /\ packB (s.take (k + 1)) (k / 8) = packB (s.take k) (k / 8) + bit s k * 2 ^ (7 - k % 8) := by
 have hk : k = 8 * (k / 8) + k % 8 := by omega
 have hr : k % 8 < 8 := by omega
 generalize hj : k / 8 = j at *
 generalize hq : k % 8 = r at *
 have h0 := bit_le s (8 * j); have h1 := bit_le s (8 * j + 1); have h2 := bit_le s (8 * j + 2); have h3 := bit_le s (8 * j + 3)
 have h4 := bit_le s (8 * j + 4); have h5 := bit_le s (8 * j + 5); have h6 := bit_le s (8 * j + 6); have h7 := bit_le s (8 * j + 7)
 subst hk
 have a0 : ∀ t, bit (s.take (8 * j + r)) (8 * j + t) = if t < r then bit s (8 * j + t) else 0 := fun t => by
   rw [bit_take]
   by_cases h : t < r
   · rw [if_pos h, if_pos (by omega)]
   · rw [if_neg h, if_neg (by omega)]
 have c0 : ∀ t, bit (s.take (8 * j + r + 1)) (8 * j + t) = if t < r + 1 then bit s (8 * j + t) else 0 := fun t => by
   rw [bit_take]
   by_cases h : t < r + 1
   · rw [if_pos h, if_pos (by omega)]
   · rw [if_neg h, if_neg (by omega)]
 have a00 : bit (s.take (8 * j + r)) (8 * j) = if 0 < r then bit s (8 * j) else 0 := a0 0
 have c00 : bit (s.take (8 * j + r + 1)) (8 * j) = if 0 < r + 1 then bit s (8 * j) else 0 := c0 0
 unfold packB
 rw [a00, a0 1, a0 2, a0 3, a0 4, a0 5, a0 6, a0 7, c00, c0 1, c0 2, c0 3, c0 4, c0 5, c0 6, c0 7]
 clear a0 c0 a00 c00
 match r, hr with
 | 0, _ => simp <;> omega
 | 1, _ => simp <;> omega
 | 2, _ => simp <;> omega
 | 3, _ => simp <;> omega
 | 4, _ => simp <;> omega
 | 5, _ => simp <;> omega
 | 6, _ => simp <;> omega
 | 7, _ => simp <;> omega
theorem packAt_set (s : List UInt8) (k : Nat) (hk : k < s.length) : (packAt s k).set (k / 8) (b8 (packB (s.take k) (k / 8) + bit s k * 2 ^ (7 - k % 8))) = packAt s (k + 1) := by
 apply List.ext_getElem?
 intro i
 rw [List.getElem?_set]
 unfold packAt
 by_cases hi : k / 8 = i
 · subst hi
   rw [if_pos rfl, if_pos (by simp; omega), List.getElem?_map, List.getElem?_range (by omega), Option.map_some, (packB_step s k).2]
 · rw [if_neg hi, List.getElem?_map, List.getElem?_map]
   by_cases hn : i < (s.length + 7) / 8
   · rw [List.getElem?_range hn, Option.map_some, Option.map_some, packB_other s k i (by omega)]
   · rw [List.getElem?_eq_none (by simp; omega), Option.map_none, Option.map_none]
theorem packAt_get (s : List UInt8) (k : Nat) (hk : k < s.length) : (packAt s k)[k / 8]? = some (b8 (packB (s.take k) (k / 8))) := by
 unfold packAt
 rw [List.getElem?_map, List.getElem?_range (by omega), Option.map_some]
theorem or_code (s : List UInt8) (k : Nat) (hP : isP s) (hk : k < s.length) (h : k < (S s).size) :
   Go.bits .or .u8 ((packB (s.take k) (k / 8) : Nat) : Int) ((((((S s)[k]'h).toNat : Nat) : Int) - 48) % 256 * 2 ^ (7 - k % 8) % 256) = ((b8 (packB (s.take k) (k / 8) + bit s k * 2 ^ (7 - k % 8))).toNat : Int) := by
 obtain ⟨hz, hs2⟩ := packB_step s k
 have hlt := packB_lt (s.take (k + 1)) (k / 8)
 have hx := packB_lt (s.take k) (k / 8)
 rw [hs2] at hlt
 have hb : ((((((S s)[k]'h).toNat : Nat) : Int) - 48) % 256) = ((bit s k : Nat) : Int) := by
   have hm := hP.1 s[k] (List.getElem_mem hk)
   rcases hm with e | e
   · have e1 : ((S s)[k]'h).toNat = 48 := by rw [S_get]; exact congrArg UInt8.toNat e
     have e2 : s[k]? = some 48 := by rw [List.getElem?_eq_getElem hk]; exact congrArg some e
     unfold bit
     rw [e1, e2]; rfl
   · have e1 : ((S s)[k]'h).toNat = 49 := by rw [S_get]; exact congrArg UInt8.toNat e
     have e2 : s[k]? = some 49 := by rw [List.getElem?_eq_getElem hk]; exact congrArg some e
     unfold bit
     rw [e1, e2]; rfl
 have hb1 := bit_le s k
 rw [hb, b8_toNat _ hlt]
 generalize bit s k = q at *
 generalize packB (s.take k) (k / 8) = x at *
 have hp : 2 ^ (7 - k % 8) <= 128 := by
   have := Nat.pow_le_pow_right (n := 2) (by decide : 2 > 0) (by omega : 7 - k % 8 <= 7)
   simpa using this
 have hq : q * 2 ^ (7 - k % 8) <= 128 := by
   rcases (by omega : q = 0 ∨ q = 1) with rfl | rfl
   · simp
   · simpa using hp
 have e1 : ((q : Nat) : Int) * 2 ^ (7 - k % 8) % 256 = ((q * 2 ^ (7 - k % 8) : Nat) : Int) := by
   rw [show ((q : Nat) : Int) * 2 ^ (7 - k % 8) = ((q * 2 ^ (7 - k % 8) : Nat) : Int) from by simp]
   omega
 rw [e1, u8_or_nat x (q * 2 ^ (7 - k % 8)) hx (by omega)]
 congr 1
 refine nat_join (8 - k % 8) x _ hz ?_
 have h2 : 2 ^ (8 - k % 8) = 2 ^ (7 - k % 8) * 2 := by rw [<- Nat.pow_succ]; congr 1; omega
 have hpos := Nat.one_le_two_pow (n := 7 - k % 8)
 rw [h2]
 rcases (by omega : q = 0 ∨ q = 1) with rfl | rfl
 · simp; omega
 · simp; omega
set_option maxRecDepth 20000 in
set_option maxHeartbeats 1000000 in
theorem addPath_any (base : Nat) (v : Value) (l s : List UInt8) (w : World) (hs : isP s) (hl : l.length <= 500) (hown : Own base w v l) (hbase : base <= w.heap.size) :
   Calls Tryz.prog 85 #[v, .string (S s)] w fun e w' => Adds base w (l ++ ePath s) e w' := by
 have h37 := hs.2
 obtain ⟨i0, hi, hz0, hz1, hz2⟩ := info_parts u8info
 have hk := addNumber_any base v l s.length w (by omega) (by omega) hown hbase
 have hss := S_size s
 have hel : (eNum s.length).length <= 10 := eNumF_len 10 s.length
 obtain ⟨K, hK⟩ : ∃ K, K = (s.length + 7) / 8 := ⟨_, rfl⟩
 have hK5 : K <= 5 := by omega
 obtain ⟨M, hM⟩ : ∃ M, M = madeCells (Value.int .u8 0).cells K := ⟨_, rfl⟩
 have hmk : ∀ W : World, (Instr.makeSlice 93 (.int .i64 (((s.length : Int) + 7) / 8)) (.int .i64 (((s.length : Int) + 7) / 8))).run Tryz.prog W = .ok (.slice (some ⟨W.heap.size, 0, none⟩) K K) (W.alloc (.cells M 5)) := fun W => by
   have h := run_make (P := Tryz.prog) W 93 5 i0 (.int .u8 0) Tryz.underlying93 hi hz0 .i64 .i64 (((s.length : Int) + 7) / 8) (((s.length : Int) + 7) / 8) (by omega) (by omega) (by rw [hz2]; omega) (by omega)
   rw [hz1, show (((s.length : Int) + 7) / 8).toNat = K from by omega, Nat.mul_one, <- hM] at h
   exact h
 have HM : Hid _ := hM
 have HK : Hid _ := hK
 clear hM hK
 go_enter Tryz.func85, Tryz.ntmps85
 go_wp2_with fail
 refine hk.mono ?_
 rintro e w1 ⟨v1, rfl, hO1, hB1⟩
 go_wp2_with fail
 obtain ⟨g, hg⟩ : ∃ g, g = w1.heap.size := ⟨_, rfl⟩
 obtain ⟨wm, hwm⟩ : ∃ wm, wm = w1.alloc (.cells M 5) := ⟨_, rfl⟩
 have hrow : BRow wm g (packAt s 0) := by rw [hwm, hg, packAt_zero, HM.out, HK.out]; exact BRow.new w1 _
 have hBg : Below g w1 wm := by rw [hwm, hg]; exact (Below.refl _ w1).alloc (Nat.le_refl _) _
 have hbg : base <= g := by have := hB1.size; omega
 have hg1 : Hid (g = w1.heap.size) := hg
 rw [<- hwm, <- hg]
 clear hg hwm hmk hk hown
 go_loopw [18] (fun i wr => ∃ k : Nat, k <= s.length /\ i = .int .i64 k /\ BRow wr g (packAt s k) /\ Below g w1 wr) (fun i _ => s.length - (intOf i).toNat)
 case atStart => exact ⟨0, by omega, rfl, hrow, hBg⟩
 case round =>
   obtain ⟨k, hk, rfl, hrow', hb5⟩ := hrel
   by_cases hlt : k < s.length
   · have hmk := hrow'.mark (k / 8)
     have hpk : k / 8 < K := by have := HK.out; omega
     have hpl := packAt_length s k
     obtain ⟨x, hx⟩ : ∃ x, x = packB (s.take k) (k / 8) := ⟨_, rfl⟩
     have hcl : wr.cell? ⟨g, k / 8, none⟩ = some (.int .u8 (x : Nat)) := by
       have hlen : k / 8 < (packAt s k).length := by rw [hpl]; omega
       have h1 := hrow'.cell (k / 8) hlen
       have h2 := packAt_get s k hlt
       rw [List.getElem?_eq_getElem hlen] at h2
       rw [h1, Option.some.inj h2, b8_toNat _ (packB_lt _ _), hx]
     have HX : Hid _ := hx
     clear hx hpl
     go_wp2
     go_region
     go_wp2
     go_roundw
     case rel =>
       refine ⟨k + 1, by omega, by go_num, ?_, ?_⟩
       · rw [<- packAt_set s k hlt]
         have hxx := HX.out
         subst hxx
         exact hrow'.set (k / 8) _ _ (or_code s k hs hlt _)
       · exact (below_set hb5 _ _ _ (Nat.le_refl _)).drew
     case measure => simp [intOf]; omega
   · obtain rfl : k = s.length := by omega
     rw [packAt_full] at hrow'
     have hO2 : Own base wr v1 (l ++ eNum s.length) := hO1.keep fun j hj => hb5.block j (by rw [hg1.out]; exact hj)
     have hpl : (pack s).length = K := by rw [pack_length, HK.out]
     have hnews : ∀ j u, (cellsB (pack s))[j]? = some u -> wr.cell? ((⟨g, 0, none⟩ : Addr).add j) = some u := by
       intro j u hj
       unfold cellsB at hj
       rw [List.getElem?_map] at hj
       cases hp : (pack s)[j]? with
       | none => rw [hp] at hj; cases hj
       | some c =>
         rw [hp] at hj
         have hlj : j < (pack s).length := by
           by_cases h : j < (pack s).length
           · exact h
           · rw [List.getElem?_eq_none (by omega)] at hp; cases hp
         have hc := hrow'.cell j hlj
         rw [List.getElem?_eq_getElem hlj] at hp
         rw [Option.some.inj hp] at hc
         simp only [Option.map_some, Option.some.injEq] at hj
         have ea : (⟨g, 0, none⟩ : Addr).add j = ⟨g, j, none⟩ := by cases j <;> simp [Addr.add]
         rw [<- hj, <- hc, ea]
     have hgz : w1.heap.size <= wr.heap.size := hb5.size
     have hone : ∀ u, u ∈ cellsB (pack s) -> u.oneCell' = true := by
       intro u hu
       unfold cellsB at hu
       obtain ⟨c, _, rfl⟩ := List.mem_map.1 hu
       rfl
     have hO2' := hO2
     unfold Own at hO2
     go_wp2_with (at_builtin; refine wpList_append_own _ rfl (.tmp 37) (.tmp 38) 93 rfl base 5 i0 (.int .u8 0) 1 1 Tryz.underlying93 hi hz0 hz1 hz2 rfl (by decide) _ _ _ rfl hO2 ⟨g, 0, none⟩ K K (cellsB (pack s)) rfl ?c1 hnews hone ?c3 ?c4 ?c5 ?_)
     case c1 => simp [cellsB, hpl]
     case c3 => rw [List.length_append]; unfold maxLen; omega
     case c4 => rw [List.length_append]; omega
     case c5 => have := hB1.size; omega
     intro v' w2 hown2 hgrow _
     have hO : Own base w2 v' (l ++ ePath s) := by
       unfold Own ePath
       rw [<- cellsB_append] at hown2
       rw [<- List.append_assoc, List.length_append, List.length_append, hpl]
       exact hown2
     have hB := (hB1.trans (hb5.mono hbg)).grown hgrow (by have := hB1.size; omega) (Own.block hO2')
     clear hown2 hgrow hO1 hB1 hel hO2 hO2' hnews hone hb5 hrow'
     go_wp2
     go_ret
     exact ⟨_, rfl, hO, hB⟩
theorem Own.one (base : Nat) (w : World) (c : UInt8) (x : Int) (hx : x = c.toNat) (hb : base <= w.heap.size) : Own base (w.alloc (.cells #[.int .u8 x] 5)) (.slice (some ⟨w.heap.size, 0, none⟩) 1 1) [c] := by
 subst hx
 refine ⟨by simp [cellsB], Or.inr ⟨w.heap.size, 1, _, rfl, hb, heap_alloc_new w _, Nat.le_refl _, by decide, by simp, by simp [cellsB]⟩⟩
theorem Own.drew {base : Nat} {w : World} {v : Value} {l : List UInt8} (h : Own base w v l) : Own base w.drew v l := h
theorem ePath_len (p : List UInt8) (h : isP p) : (ePath p).length <= 15 := by
 unfold ePath
 have h1 := eNumF_len 10 p.length
 have h2 := h.2
 rw [List.length_append, pack_length]
 unfold eNum
 omega
theorem Own.text {base : Nat} {w : World} {v : Value} {l : List UInt8} (h : Own base w v l) (h0 : l ≠ []) : ∃ a cap, v = .slice (some a) l.length cap /\ (Go.convert 93 9 v).run Tryz.prog w = .ok (.string (S l)) w := by
 obtain ⟨h1, ⟨rfl, h2⟩ | ⟨g, cap, cur, rfl, hg, hb, hn, hcap, hcs, htk⟩⟩ := h
 · exact absurd (List.length_eq_zero_iff.1 h2) h0
 · refine ⟨⟨g, 0, none⟩, cap, rfl, ?_⟩
   refine run_convert_bytes_back (P := Tryz.prog) w 93 9 5 ⟨g, 0, none⟩ cap l Tryz.underlying93 Tryz.underlying5 Tryz.underlying9 (fun j hj => ?_)
   have ea : (⟨g, 0, none⟩ : Addr).add j = ⟨g, j, none⟩ := by cases j <;> simp [Addr.add]
   rw [ea]
   have hc : cur.toList[j]? = some (.int .u8 l[j].toNat) := by
     have h3 : (cellsB l)[j]? = some (.int .u8 l[j].toNat) := by simp [cellsB, hj]
     rw [<- htk, List.getElem?_take] at h3
     rw [if_pos (by omega)] at h3
     exact h3
   rw [Array.getElem?_toList] at hc
   simp [World.cell?, hb, hc]
theorem Own.run {base : Nat} {w : World} {v : Value} {l : List UInt8} (h : Own base w v l) (h0 : l ≠ []) : (Go.convert 93 9 v).run Tryz.prog w = .ok (.string (S l)) w := by
 obtain ⟨_, _, _, h1⟩ := h.text h0
 exact h1
set_option maxRecDepth 20000 in
set_option maxHeartbeats 1000000 in
theorem put_leaf (p v : List UInt8) (w : World) (hp : isPb p = true) (hv : v.length <= 20) :
   Calls Tryz.prog 65 #[nodeV ⟨0, p, v, 0, 0⟩] w fun e w' => e = .returned (.string (S (0 :: (ePath p ++ eVal v)))) /\ Below w.heap.size w w' := by
 have hP := (isPb_iff p).1 hp
 have h37 := hP.2
 have hO : ∀ o, Own (w.heap.size + 1) ((w.alloc o).alloc (.cells #[.int .u8 0] 5)) (.slice (some ⟨w.heap.size + 1, 0, none⟩) 1 1) [0] := fun o => by
   have h := Own.one (w.heap.size + 1) (w.alloc o) 0 0 rfl (by simp)
   rwa [World.size_alloc] at h
 have hpl := ePath_len p hP
 unfold nodeV
 go_enter Tryz.func65, Tryz.ntmps65
 go_wp2_with fail
 go_region_with (first
   | (go_at_call 85; refine (addPath_any (w.heap.size + 1) _ [0] p _ hP (by simp) (by first | exact hO _ | exact (hO _).drew) (by simp)).mono ?_; rintro e w2 ⟨v2, rfl, hO2, hB2⟩; have hcc := fun o => hB2.cell (p := ⟨w.heap.size, o, none⟩) (by show w.heap.size < w.heap.size + 1; omega))
   | (go_at_call 84; refine (addText_any (w.heap.size + 1) _ ([0] ++ ePath p) v _ (by omega) (by rw [List.length_append]; simp; omega) (by first | exact hO2 | exact hO2.drew) (by have := hB2.size; simp at this; omega)).mono ?_; rintro e w3 ⟨v3, rfl, hO3, hB3⟩))
 all_goals
   have ht1 := hO3.run (by simp)
   have ht2 := hO3.drew.run (by simp)
   have hb0 : Below w.heap.size w ((w.alloc (.cells #[.int .i64 0, .string (S p), .string (S v), .int .i64 0, .int .i64 0] 112)).alloc (.cells #[.int .u8 0] 5)) := ((Below.refl _ w).alloc (Nat.le_refl _) _).alloc (by simp) _
   have h12 : Below w.heap.size w w2 := by first | exact hb0.trans (hB2.mono (by omega)) | exact hb0.drew.trans (hB2.mono (by omega))
   have h13 : Below w.heap.size w w3 := by first | exact h12.trans (hB3.mono (by omega)) | exact h12.drew.trans (hB3.mono (by omega))
   clear hO hO2 hO3 hB2 hB3 hb0 hcc h12
   simp only [Exit.inBlock, Exit.then]
   repeat go_step
   go_ret
   refine ⟨?_, by first | exact h13 | exact h13.drew⟩
   rfl
set_option maxRecDepth 20000 in
set_option maxHeartbeats 2000000 in
theorem put_branch (p : List UInt8) (x y : Int) (w : World) (hp : isPb p = true) (hx : is32 x = true) (hy : is32 y = true) :
   Calls Tryz.prog 65 #[nodeV ⟨1, p, [], x, y⟩] w fun e w' => e = .returned (.string (S (1 :: (ePath p ++ (e4 x.toNat ++ e4 y.toNat))))) /\ Below w.heap.size w w' := by
 have hP := (isPb_iff p).1 hp
 have h37 := hP.2
 have hx2 : 0 <= x /\ x < 4294967296 := by simpa [is32] using hx
 have hy2 : 0 <= y /\ y < 4294967296 := by simpa [is32] using hy
 clear hx hy
 have hO : ∀ o, Own (w.heap.size + 1) ((w.alloc o).alloc (.cells #[.int .u8 1] 5)) (.slice (some ⟨w.heap.size + 1, 0, none⟩) 1 1) [1] := fun o => by
   have h := Own.one (w.heap.size + 1) (w.alloc o) 1 1 rfl (by simp)
   rwa [World.size_alloc] at h
 have hpl := ePath_len p hP
 have hpl2 : ([1] ++ ePath p).length <= 16 := by rw [List.length_append]; simp; omega
 have hpl3 : ([1] ++ ePath p ++ e4 x.toNat).length <= 20 := by rw [List.length_append]; simp [e4] at hpl2 ⊢; omega
 unfold nodeV
 go_enter Tryz.func65, Tryz.ntmps65
 go_wp2_with fail
 go_region_with (first
   | (go_at_call 85; refine (addPath_any (w.heap.size + 1) _ [1] p _ hP (by simp) (by first | exact hO _ | exact (hO _).drew) (by simp)).mono ?_; rintro e w2 ⟨v2, rfl, hO2, hB2⟩; have hcc := fun o => hB2.cell (p := ⟨w.heap.size, o, none⟩) (by show w.heap.size < w.heap.size + 1; omega); have tok : True := trivial)
   | (go_at_call 86; have _t := tok; refine (addFour_any (w.heap.size + 1) _ ([1] ++ ePath p) x _ hx2.1 hx2.2 (by omega) (by first | exact hO2 | exact hO2.drew) (by have := hB2.size; simp at this; omega)).mono ?_; rintro e w3 ⟨v3, rfl, hO3, hB3⟩; have hcc3 := fun o => hB3.cell (p := ⟨w.heap.size, o, none⟩) (by show w.heap.size < w.heap.size + 1; omega); clear tok)
   | (go_at_call 86; refine (addFour_any (w.heap.size + 1) _ ([1] ++ ePath p ++ e4 x.toNat) y _ hy2.1 hy2.2 (by omega) (by first | exact hO3 | exact hO3.drew) (by have := hB2.size; have := hB3.size; simp at *; omega)).mono ?_; rintro e w4 ⟨v4, rfl, hO4, hB4⟩))
 all_goals
   have ht1 := hO4.run (by simp)
   have ht2 := hO4.drew.run (by simp)
   have hb0 : Below w.heap.size w ((w.alloc (.cells #[.int .i64 1, .string (S p), .string (S []), .int .i64 x, .int .i64 y] 112)).alloc (.cells #[.int .u8 1] 5)) := ((Below.refl _ w).alloc (Nat.le_refl _) _).alloc (by simp) _
   have h12 : Below w.heap.size w w2 := by first | exact hb0.trans (hB2.mono (by omega)) | exact hb0.drew.trans (hB2.mono (by omega))
   have h13 : Below w.heap.size w w3 := by first | exact h12.trans (hB3.mono (by omega)) | exact h12.drew.trans (hB3.mono (by omega))
   have h14 : Below w.heap.size w w4 := by first | exact h13.trans (hB4.mono (by omega)) | exact h13.drew.trans (hB4.mono (by omega))
   clear hO hO2 hO3 hO4 hB2 hB3 hB4 hb0 hcc hcc3 h12 h13
   simp only [Exit.inBlock, Exit.then]
   repeat go_step
   go_ret
   refine ⟨?_, by first | exact h14 | exact h14.drew⟩
   rfl
set_option maxRecDepth 20000 in
set_option maxHeartbeats 1000000 in
theorem put_empty (w : World) :
   Calls Tryz.prog 65 #[nodeV empty] w fun e w' => e = .returned (.string (S [2])) /\ Below w.heap.size w w' := by
 have hO : ∀ o, Own (w.heap.size + 1) ((w.alloc o).alloc (.cells #[.int .u8 2] 5)) (.slice (some ⟨w.heap.size + 1, 0, none⟩) 1 1) [2] := fun o => by
   have h := Own.one (w.heap.size + 1) (w.alloc o) 2 2 rfl (by simp)
   rwa [World.size_alloc] at h
 have ht1 := fun o => (hO o).run (by simp)
 unfold nodeV empty
 clear hO
 go_enter Tryz.func65, Tryz.ntmps65
 go_wp2
 go_ret
 exact ⟨rfl, ((Below.refl _ w).alloc (Nat.le_refl _) _).alloc (by simp) _⟩
theorem put_ok (n : Nd) (b : List UInt8) (w : World) (h : encN n = some b) :
   Calls Tryz.prog 65 #[nodeV n] w fun e w' => e = .returned (.string (S b)) /\ Below w.heap.size w w' := by
 unfold encN at h
 by_cases he : n = empty
 · rw [if_pos he] at h; cases h; subst he; exact put_empty w
 · rw [if_neg he] at h
   by_cases h1 : n.kind = 0 /\ isPb n.path = true /\ n.value.length <= 20 /\ n.left = 0 /\ n.right = 0
   · rw [if_pos h1] at h; cases h
     obtain ⟨k, p, v, x, y⟩ := n
     simp only at h1
     obtain ⟨rfl, hp, hv, rfl, rfl⟩ := h1
     exact put_leaf p v w hp hv
   · rw [if_neg h1] at h
     by_cases h2 : n.kind = 1 /\ isPb n.path = true /\ n.value = [] /\ is32 n.left = true /\ is32 n.right = true
     · rw [if_pos h2] at h; cases h
       obtain ⟨k, p, v, x, y⟩ := n
       simp only at h2
       obtain ⟨rfl, hp, rfl, hx, hy⟩ := h2
       exact put_branch p x y w hp hx hy
     · rw [if_neg h2] at h; cases h
end Go.Proofs.YtddcbeeldjjmeaaGreat.Tw
namespace Go.Proofs.YtddcbeeldjjmeaaGreat.Dig
open Go.RowKit
def rnd (h c : Nat) : Nat := ((h ^^^ c) * 16777619) % 4294967296
def fnvOf (a : Nat) (l : List UInt8) : Nat := l.foldl (fun h c => rnd h c.toNat) a
theorem fnvOf_nil (a : Nat) : fnvOf a [] = a := rfl
theorem fnvOf_cons (a : Nat) (c : UInt8) (l : List UInt8) : fnvOf a (c :: l) = fnvOf (rnd a c.toNat) l := rfl
theorem fnvOf_snoc (a : Nat) (l : List UInt8) (c : UInt8) : fnvOf a (l ++ [c]) = rnd (fnvOf a l) c.toNat := by
 induction l generalizing a with
 | nil => rw [List.nil_append, fnvOf_cons, fnvOf_nil, fnvOf_nil]
 | cons d l ih => rw [List.cons_append, fnvOf_cons, fnvOf_cons, ih]
theorem rnd_lt (h c : Nat) : rnd h c < 4294967296 := by unfold rnd; omega
theorem fnvOf_lt (l : List UInt8) : ∀ a, a < 4294967296 -> fnvOf a l < 4294967296 := by
 induction l with
 | nil => intro a ha; exact ha
 | cons c l ih => intro a _; exact ih _ (rnd_lt _ _)
def start : Nat := 2166136261
theorem start_is : start = 2166136261 := by unfold start; exact Eq.refl _
def fnv (l : List UInt8) : Nat := fnvOf start l
def dig (w : Nat) (l : List UInt8) : Nat := (fnv l ^^^ fnv l / 32768) % 2 ^ w
theorem fnv_lt (l : List UInt8) : fnv l < 4294967296 := fnvOf_lt l _ (by rw [start_is]; omega)
theorem fnv_nil : fnv [] = 2166136261 := by unfold fnv; rw [fnvOf_nil, start_is]
theorem fnv_snoc (l : List UInt8) (c : UInt8) : fnv (l ++ [c]) = rnd (fnv l) c.toNat := fnvOf_snoc start l c
theorem take_snoc (s : ByteArray) (k : Nat) (h : k < s.size) : s.data.toList.take (k + 1) = s.data.toList.take k ++ [s[k]] := by
 rw [List.take_succ_eq_append_getElem (by simpa using h)]; rfl
theorem fnv_take (s : ByteArray) (k : Nat) (h : k < s.size) : fnv (s.data.toList.take (k + 1)) = rnd (fnv (s.data.toList.take k)) s[k].toNat := by
 rw [take_snoc s k h, fnv_snoc]
theorem take_all (s : ByteArray) : s.data.toList.take s.size = s.data.toList := List.take_of_length_le (by simp)
theorem xor_lt (a b : Nat) (ha : a < 4294967296) (hb : b < 4294967296) : a ^^^ b < 4294967296 := by
 have := Nat.xor_lt_two_pow (n := 32) (by simpa using ha) (by simpa using hb)
 simpa using this
theorem ofInt_i64 (a : Nat) (ha : a < 9223372036854775808) : (BitVec.ofInt 64 (a : Int)).toNat = a := by
 rw [BitVec.ofInt_natCast, BitVec.toNat_ofNat]; exact Nat.mod_eq_of_lt (by omega)
theorem i64_and_nat (a b : Nat) (ha : a < 9223372036854775808) (hb : b < 9223372036854775808) : bits .and .i64 (a : Int) (b : Int) = ((a &&& b : Nat) : Int) := by
 have hx : a &&& b < 2 ^ 63 := Nat.and_lt_two_pow _ (by omega)
 show IntKind.i64.wrap ((BitVec.ofInt 64 (a : Int) &&& BitVec.ofInt 64 (b : Int)).toNat : Int) = _
 rw [BitVec.toNat_and, ofInt_i64 a ha, ofInt_i64 b hb, IntKind.wrap_i64]
 omega
theorem pow32 (n : Nat) (h : n <= 32) : 2 ^ n <= 4294967296 := by
 have := Nat.pow_le_pow_right (n := 2) (by decide) h
 simpa using this
theorem pow_pos' (n : Nat) : 1 <= 2 ^ n := Nat.one_le_two_pow
theorem last_code (n h : Nat) (hn : n <= 32) (hh : h < 4294967296) :
   bits .and .i64 (wrap64 (bits .xor .u32 (h : Int) ((h : Int) / 32768))) (wrap64 (wrap64 (2 ^ n) - 1)) = (((h ^^^ h / 32768) % 2 ^ n : Nat) : Int) := by
 have e1 : bits .xor .u32 (h : Int) ((h : Int) / 32768) = ((h ^^^ h / 32768 : Nat) : Int) := by
   rw [show ((h : Int) / 32768) = ((h / 32768 : Nat) : Int) from by omega]
   exact u32_xor_nat h (h / 32768) hh (by omega)
 have hx := xor_lt h (h / 32768) hh (by omega)
 have hp := pow32 n hn
 have hp1 := pow_pos' n
 have e2 : ((2 : Int) ^ n) = ((2 ^ n : Nat) : Int) := by simp
 rw [e1, e2]
 generalize h ^^^ h / 32768 = x at hx ⊢
 generalize hP : 2 ^ n = P at hp hp1 ⊢
 have e3 : wrap64 (x : Int) = (x : Int) := IntWalk.wrap64_in _ ⟨by omega, by omega⟩
 have e4 : wrap64 (wrap64 (P : Int) - 1) = ((P - 1 : Nat) : Int) := by
   rw [IntWalk.wrap64_in (P : Int) ⟨by omega, by omega⟩, IntWalk.wrap64_in _ ⟨by omega, by omega⟩]; omega
 rw [e3, e4, i64_and_nat x (P - 1) (by omega) (by omega), <- hP, Nat.and_two_pow_sub_one_eq_mod]
theorem round_code (h c : Nat) (hh : h < 4294967296) (hc : c < 256) :
   bits .xor .u32 (h : Int) ((c : Int) % 4294967296) * 16777619 % 4294967296 = ((rnd h c : Nat) : Int) := by
 rw [show ((c : Int) % 4294967296) = ((c : Nat) : Int) from by omega, u32_xor_nat h c hh (by omega)]
 unfold rnd
 omega
theorem ret_int {k : IntKind} {a b : Int} (h : a = b) : Ending.returned (.int k a) = .returned (.int k b) := by rw [h]
theorem of_any (n : Nat) (s : ByteArray) (w : World) (h2 : n <= 32) (hs : s.size <= maxLen) :
   Calls Tryz.prog 64 #[.int .i64 n, .string s] w fun e w' => e = .returned (.int .i64 (dig n s.data.toList : Int)) /\ w' = w := by
 unfold maxLen at hs
 go_enter Tryz.func64, Tryz.ntmps64
 go_wp2
 go_loop [5, 9] (fun h i => ∃ k : Nat, k <= s.size /\ i = .int .i64 k /\ h = .int .u32 (fnv (s.data.toList.take k) : Int)) (fun _ i => s.size - (intOf i).toNat)
 case atStart => exact ⟨0, Nat.zero_le _, rfl, by rw [List.take_zero, fnv_nil]; rfl⟩
 case round =>
   obtain ⟨k, hk, rfl, rfl⟩ := hrel
   have hl := fnv_lt (s.data.toList.take k)
   by_cases hlt : k < s.size
   · have hr := round_code (fnv (s.data.toList.take k)) s[k].toNat hl s[k].toNat_lt
     rw [<- fnv_take s k hlt] at hr
     have HR : Hid _ := hr
     clear hr
     go_wp2
     go_round
     case rel => exact ⟨k + 1, by omega, by go_num, by rw [HR.out]⟩
     case measure => simp [intOf]; omega
   · have hr := last_code n (fnv (s.data.toList.take k)) h2 hl
     have HR : Hid _ := hr
     clear hr
     go_wp2
     go_ret
     refine ⟨ret_int ?_, rfl⟩
     have e : k = s.size := by omega
     subst e
     unfold dig
     have H := HR.out
     rw [take_all s] at H
     rw [take_all s]
     exact H
end Go.Proofs.YtddcbeeldjjmeaaGreat.Dig
namespace Go.Proofs.YtddcbeeldjjmeaaGreat
open Go Go.Conc Go.Eq Go.Nest Go.RowKit Go.Conc.Lib Go.ConcR.Gen
open Go.ConcR (DC0)
open Go.ConcN (WgLive)
def nodeBytes (kind : Int) (p v : ByteArray) (l r : Int) : List UInt8 := (Pu.encN ⟨kind, p.data.toList, v.data.toList, l, r⟩).getD []
def dgw (n : Nat) (kind : Int) (p v : ByteArray) (l r : Int) : Int := (Dig.dig n (nodeBytes kind p v l r) : Int)
def Wf : Tr -> Prop
 | .empty => True
 | .leaf p v => Pu.isPb p.data.toList = true /\ v.size <= 20
 | .branch p l r => Pu.isPb p.data.toList = true /\ Wf l /\ Wf r
theorem dig_bits (n : Nat) (hn : n <= 32) (l : List UInt8) : Dig.dig n l < 4294967296 := by
 unfold Dig.dig
 have h := Dig.pow32 n hn
 have h2 := Dig.pow_pos' n
 have := Nat.mod_lt (Dig.fnv l ^^^ Dig.fnv l / 32768) h2
 omega
theorem dgw_32 (n : Nat) (hn : n <= 32) (kind : Int) (p v : ByteArray) (l r : Int) : Pu.is32 (dgw n kind p v l r) = true := by
 have := dig_bits n hn (nodeBytes kind p v l r)
 unfold Pu.is32 dgw
 exact decide_eq_true (by omega)
theorem Tr.dig_32 (n : Nat) (hn : n <= 32) (t : Tr) : Pu.is32 (t.dig (dgw n)) = true := by
 cases t <;> exact dgw_32 n hn _ _ _ _ _
theorem enc_len {m : Pu.Nd} {b : List UInt8} (h : Pu.encN m = some b) : b.length <= 100 := by
 have hnum : ∀ x, (Pu.eNum x).length <= 10 := fun x => Tw.eNumF_len 10 x
 unfold Pu.encN at h
 split at h
 · cases h; simp
 · split at h
   · rename_i h1
     cases h
     have h2 := Tw.ePath_len m.path ((Pu.isPb_iff _).1 h1.2.1)
     have := hnum m.value.length
     simp only [List.length_cons, List.length_append, Pu.eVal]
     omega
   · split at h
     · rename_i h1
       cases h
       have h2 := Tw.ePath_len m.path ((Pu.isPb_iff _).1 h1.2.1)
       simp [Pu.e4]
       omega
     · cases h
def Tr.sideDigs (dg : Int -> ByteArray -> ByteArray -> Int -> Int -> Int) : Tr -> Int × Int
 | .branch _ l r => (l.dig dg, r.dig dg)
 | _ => (0, 0)
theorem Tr.dig_eq (dg : Int -> ByteArray -> ByteArray -> Int -> Int -> Int) (t : Tr) : t.dig dg = dg t.kind t.path t.value (Tr.sideDigs dg t).1 (Tr.sideDigs dg t).2 := by
 cases t <;> rfl
theorem enc_some (n : Nat) (hn : n <= 32) (t : Tr) (hW : Wf t) : Pu.encN ⟨t.kind, t.path.data.toList, t.value.data.toList, (Tr.sideDigs (dgw n) t).1, (Tr.sideDigs (dgw n) t).2⟩ = some (nodeBytes t.kind t.path t.value (Tr.sideDigs (dgw n) t).1 (Tr.sideDigs (dgw n) t).2) := by
 have key : ∀ m : Pu.Nd, (∃ b, Pu.encN m = some b) -> Pu.encN m = some ((Pu.encN m).getD []) := fun m ⟨b, h⟩ => by rw [h]; rfl
 unfold nodeBytes
 refine key _ ?_
 cases t with
 | empty => exact ⟨[2], by simp [Pu.encN, Pu.empty, Tr.kind, Tr.path, Tr.value, Tr.sideDigs, noText]⟩
 | leaf p v =>
   have h1 : ¬ (⟨0, p.data.toList, v.data.toList, 0, 0⟩ : Pu.Nd) = Pu.empty := fun h => by
     have := congrArg Pu.Nd.kind h
     cases this
   have h3 : v.data.toList.length <= 20 := hW.2
   have h2 : (⟨0, p.data.toList, v.data.toList, 0, 0⟩ : Pu.Nd).kind = 0 /\ Pu.isPb p.data.toList = true /\ v.data.toList.length <= 20 /\ (0 : Int) = 0 /\ (0 : Int) = 0 := ⟨rfl, hW.1, h3, rfl, rfl⟩
   show ∃ b, Pu.encN ⟨0, p.data.toList, v.data.toList, 0, 0⟩ = some b
   unfold Pu.encN
   rw [if_neg h1, if_pos h2]
   exact ⟨_, rfl⟩
 | branch p l r =>
   have h1 : ¬ (⟨1, p.data.toList, [], l.dig (dgw n), r.dig (dgw n)⟩ : Pu.Nd) = Pu.empty := fun h => by
     have := congrArg Pu.Nd.kind h
     cases this
   have h0 : ¬ ((1 : Int) = 0 /\ Pu.isPb p.data.toList = true /\ ([] : List UInt8).length <= 20 /\ l.dig (dgw n) = 0 /\ r.dig (dgw n) = 0) := fun h => by cases h.1
   have h2 : (1 : Int) = 1 /\ Pu.isPb p.data.toList = true /\ ([] : List UInt8) = [] /\ Pu.is32 (l.dig (dgw n)) = true /\ Pu.is32 (r.dig (dgw n)) = true := ⟨rfl, hW.1, rfl, Tr.dig_32 n hn l, Tr.dig_32 n hn r⟩
   show ∃ b, Pu.encN ⟨1, p.data.toList, [], l.dig (dgw n), r.dig (dgw n)⟩ = some b
   unfold Pu.encN
   rw [if_neg h1, if_neg h0, if_pos h2]
   exact ⟨_, rfl⟩
theorem node_call (n : Nat) (hn : n <= 32) (t : Tr) (hW : Wf t) (u : World) :
   Calls Tryz.prog 65 #[.agg #[.int .i64 t.kind, .string t.path, .string t.value, .int .i64 (Tr.sideDigs (dgw n) t).1, .int .i64 (Tr.sideDigs (dgw n) t).2]] u fun e _ =>
     e = .returned (.string (Tw.S (nodeBytes t.kind t.path t.value (Tr.sideDigs (dgw n) t).1 (Tr.sideDigs (dgw n) t).2))) := by
 have h := Tw.put_ok _ _ u (enc_some n hn t hW)
 simp only [Tw.nodeV, Tw.S_of] at h
 exact h.mono fun e w' he => he.1
theorem of_call (n : Nat) (hn : n <= 32) (t : Tr) (hW : Wf t) (u : World) :
   Calls Tryz.prog 64 #[.int .i64 n, .string (Tw.S (nodeBytes t.kind t.path t.value (Tr.sideDigs (dgw n) t).1 (Tr.sideDigs (dgw n) t).2))] u fun e _ => e = .returned (.int .i64 (t.dig (dgw n))) := by
 have hl := enc_len (enc_some n hn t hW)
 have h := Dig.of_any n (Tw.S (nodeBytes t.kind t.path t.value (Tr.sideDigs (dgw n) t).1 (Tr.sideDigs (dgw n) t).2)) u hn (by rw [Tw.S_size]; unfold maxLen; omega)
 refine h.mono fun e w' he => ?_
 rw [he.1, Tw.S_list, Tr.dig_eq]
 rfl
def scal : Value -> Bool
 | .bool _ | .int _ _ | .string _ => true
 | _ => false
theorem scal_eq [Env] {π : Ren} {v v' : Value} (h : VRel π v v') (hs : scal v = true) : v' = v := by
 cases h <;> first | rfl | cases hs
theorem agg_eq [Env] {π : Ren} {cs : Array Value} {v' : Value} (h : VRel π (.agg cs) v') (hs : cs.all scal = true) : v' = .agg cs := by
 cases h with
 | @agg _ c' h1 h2 =>
   congr 1
   refine Array.ext_getElem? fun i => ?_
   have hv : VsRel π cs c' := ⟨h1, h2⟩
   rcases hv.get? i with ⟨e1, e2⟩ | ⟨x, x', e1, e2, e3⟩
   · rw [e1, e2]
   · rw [e1, e2]
     rw [Array.all_eq_true'] at hs
     rw [scal_eq e3 (hs x (Array.mem_of_getElem? e1))]
section
variable {A : Nat -> Prop} {ty : TypeId} {FinN : Perm -> Perm -> Goroutine -> World -> Prop} {c : Cfg} {w : World} {b : Frame} {cs : List Frame} {n : Nat}
theorem heap_low {c : Cfg} {w : World} (S : Snug c w) {x : Nat} (h : Rq A c x) : 0 <= w.heap.size := by
 have := S.low ⟨x, 0, none⟩ (h.2 _ rfl)
 have h2 := h.1.1
 show 0 <= w.heap.size
 exact Nat.le_of_lt (Nat.lt_of_le_of_lt h2 this)
theorem sd_r {R : Nat -> Prop} {dg : Int -> ByteArray -> ByteArray -> Int -> Int -> Int} {t : Tr} {x : Nat} (h : Sd nodeT dg R w t x) : R x := by
 cases t <;> exact h.1
theorem sd_node {R : Nat -> Prop} {dg : Int -> ByteArray -> ByteArray -> Int -> Int -> Int} {t : Tr} {x : Nat} (h : Sd nodeT dg R w t x) : ∃ l r, NodeAt nodeT w x t.kind t.path t.value l r (t.dig dg) true /\ (∀ y, l = ptr y -> ∃ t', Sd nodeT dg R w t' y) /\ (∀ y, r = ptr y -> ∃ t', Sd nodeT dg R w t' y) /\ (l = none ∨ ∃ y, l = ptr y) /\ (r = none ∨ ∃ y, r = ptr y) := by
 cases t with
 | empty => exact ⟨none, none, h.2, fun y e => (by cases e), fun y e => (by cases e), .inl rfl, .inl rfl⟩
 | leaf p v => exact ⟨none, none, h.2, fun y e => (by cases e), fun y e => (by cases e), .inl rfl, .inl rfl⟩
 | branch p tl tr =>
   obtain ⟨_, bl, br, h1, h2, h3⟩ := h
   exact ⟨_, _, h1, fun y e => (by cases e; exact ⟨tl, h2⟩), fun y e => (by cases e; exact ⟨tr, h3⟩), .inr ⟨bl, rfl⟩, .inr ⟨br, rfl⟩⟩
theorem cells_names {D : Nat -> Prop} {kind : Int} {p v : ByteArray} {l r : Option Addr} {d : Int} {s : Bool} (hl : l = none ∨ ∃ y, l = ptr y /\ D y /\ 0 <= y) (hr : r = none ∨ ∃ y, r = ptr y /\ D y /\ 0 <= y) :
   ∀ (i : Nat) x, (nodeCells kind p v l r d s)[i]? = some x -> Names 0 D x := by
 have key : ∀ o : Option Addr, (o = none ∨ ∃ y, o = ptr y /\ D y /\ 0 <= y) -> Names 0 D (.pointer o) := by
   rintro o (rfl | ⟨y, rfl, h1, h2⟩)
   · rfl
   · exact ⟨rfl, h1, h2⟩
 intro i x h
 have hi : i < 7 := by
   have := (Array.getElem?_eq_some_iff.1 h).1
   simpa [nodeCells] using this
 have hc : i = 0 ∨ i = 1 ∨ i = 2 ∨ i = 3 ∨ i = 4 ∨ i = 5 ∨ i = 6 := by omega
 rcases hc with rfl | rfl | rfl | rfl | rfl | rfl | rfl <;> (simp [nodeCells] at h; subst h) <;> first | rfl | exact key _ hl | exact key _ hr
theorem told_sc (S : Snug c w) {t : Tr} {bw : Nat} {lp rp : Option Addr} {d : Int} {s : Bool} (hB : NodeAt nodeT w bw t.kind t.path t.value lp rp d s) (hR : Rq A c bw)
   (hch : ∀ p tl tr, t = .branch p tl tr -> ∃ bl br, lp = ptr bl /\ rp = ptr br /\ Sd nodeT (dgw n) (Rq A c) w tl bl /\ Sd nodeT (dgw n) (Rq A c) w tr br) (hno : t.kind ≠ 1 -> lp = none /\ rp = none)
   (K : ∀ c' w', Ext ty c w c' w' -> ScS ty Tryz.prog FinN .work c' (live (b.finish (.agg #[.int .i64 t.kind, .string t.path, .string t.value, .int .i64 (Tr.sideDigs (dgw n) t).1, .int .i64 (Tr.sideDigs (dgw n) t).2])) cs) w') :
   ScS ty Tryz.prog FinN .work c (live (Frame.enter Tryz.prog 66 #[.pointer (some ⟨bw, 0, none⟩)] .normal) (b :: cs)) w := by
 let D : Nat -> Prop := fun x => x = bw ∨ ∃ t', Sd nodeT (dgw n) (Rq A c) w t' x
 have hside : ∀ o : Option Addr, o = none ∨ (∃ y t', o = ptr y /\ Sd nodeT (dgw n) (Rq A c) w t' y) -> o = none ∨ ∃ y, o = ptr y /\ D y /\ 0 <= y := by
   rintro o (h | ⟨y, t', h1, h2⟩)
   · exact .inl h
   · exact .inr ⟨y, h1, .inr ⟨t', h2⟩, (sd_r h2).1.1⟩
 have hlr : (lp = none ∨ ∃ y t', lp = ptr y /\ Sd nodeT (dgw n) (Rq A c) w t' y) /\ (rp = none ∨ ∃ y t', rp = ptr y /\ Sd nodeT (dgw n) (Rq A c) w t' y) := by
   cases t with
   | empty => obtain ⟨rfl, rfl⟩ := hno (by show (2 : Int) ≠ 1; decide); exact ⟨.inl rfl, .inl rfl⟩
   | leaf p v => obtain ⟨rfl, rfl⟩ := hno (by show (0 : Int) ≠ 1; decide); exact ⟨.inl rfl, .inl rfl⟩
   | branch p tl tr =>
     obtain ⟨bl, br, rfl, rfl, h1, h2⟩ := hch p tl tr rfl
     exact ⟨.inr ⟨bl, tl, rfl, h1⟩, .inr ⟨br, tr, rfl, h2⟩⟩
 have hD : ∀ x, D x -> Rof c x /\ ∃ cells t fr, w.heap[x]? = some (.cells cells t fr) /\ ∀ (i : Nat) v, cells[i]? = some v -> Names 0 D v := by
   rintro x (rfl | ⟨t', h⟩)
   · obtain ⟨fr, hB⟩ := hB
     exact ⟨hR.2, _, _, _, hB, cells_names (hside _ hlr.1) (hside _ hlr.2)⟩
   · obtain ⟨l, r, ⟨fr, h1⟩, h2, h3, h4, h5⟩ := sd_node h
     exact ⟨(sd_r h).2, _, _, _, h1, cells_names (hside _ (h4.imp id fun ⟨y, e⟩ => let ⟨t', ht⟩ := h2 y e; ⟨y, t', e, ht⟩)) (hside _ (h5.imp id fun ⟨y, e⟩ => let ⟨t', ht⟩ := h3 y e; ⟨y, t', e, ht⟩))⟩
 refine call_ro (D := D) (low := 0) (fns := fns) (fitting D) (by simp [fns]) S (heap_low S hR) hD (names_vs fun i v hi => ?_) (fun π v' h => @agg_eq (envOf fns D 0) π _ v' h (by simp [scal])) (fun u hsz hu => ?_) K
 · have : i = 0 := by
     have := (Array.getElem?_eq_some_iff.1 hi).1
     simp at this; exact this
   subst this
   simp at hi
   subst hi
   exact ⟨rfl, .inl rfl, hR.1.1⟩
 · have hcell : ∀ x kind p v l r d s, D x -> NodeAt nodeT w x kind p v l r d s -> ∀ i, u.cell? ⟨x, i, none⟩ = (nodeCells kind p v l r d s)[i]? := by
     rintro x kind p v l r d s hx ⟨fr, h⟩ i
     obtain ⟨fr', h'⟩ := hu x _ _ _ hx h
     exact node_cell ⟨fr', h'⟩ i
   have hb := hcell bw _ _ _ _ _ _ _ (.inl rfl) hB
   cases t with
   | empty => exact told_leaf u bw 2 noText noText (by decide) (hb 0) (hb 1) (hb 2)
   | leaf p v => exact told_leaf u bw 0 p v (by decide) (hb 0) (hb 1) (hb 2)
   | branch p tl tr =>
     obtain ⟨bl, br, rfl, rfl, h1, h2⟩ := hch p tl tr rfl
     obtain ⟨_, _, g1, -⟩ := sd_node h1
     obtain ⟨_, _, g2, -⟩ := sd_node h2
     exact told_branch u bw bl br p noText _ _ (hb 0) (hb 1) (hb 2) (hb 3) (hb 4) (hcell bl _ _ _ _ _ _ _ (.inr ⟨tl, h1⟩) g1 5) (hcell br _ _ _ _ _ _ _ (.inr ⟨tr, h2⟩) g2 5)
theorem plain_sc {f : FuncId} {args : Array Value} {v : Value} (hf : f ∈ fns) (S : Snug c w) (hlow : 0 <= w.heap.size) (hargs : args.all (fun x => match x with | .agg l => l.all scal | x => scal x) = true) (hv : scal v = true)
   (hcall : ∀ u : World, Calls Tryz.prog f args u fun e _ => e = .returned v) (K : ∀ c' w', Ext ty c w c' w' -> ScS ty Tryz.prog FinN .work c' (live (b.finish v) cs) w') :
   ScS ty Tryz.prog FinN .work c (live (Frame.enter Tryz.prog f args .normal) (b :: cs)) w := by
 refine call_ro (D := fun _ => False) (low := 0) (fns := fns) (fitting _) hf S hlow (fun x h => h.elim) ?_ (fun π v' h => @scal_eq (envOf fns (fun _ => False) 0) π v v' h hv) (fun u _ _ => hcall u) K
 letI := envOf fns (fun _ => False) 0
 refine .of_get? rfl fun i x x' e e' => ?_
 rw [e] at e'; cases e'
 rw [Array.all_eq_true'] at hargs
 have := hargs x (Array.mem_of_getElem? e)
 have hsc : ∀ y, scal y = true -> VRel (renOn fun _ => False) y y := fun y hy => by
   cases y <;> first | cases hy | skip
   · exact .bool _
   · exact .int _ _
   · exact .string _
 cases x <;> first | exact hsc _ this | skip
 rename_i l
 have hl : VsRel (renOn fun _ => False) l l := by
   refine .of_get? rfl fun i x x' e e' => ?_
   rw [e] at e'; cases e'
   have h2 : l.all scal = true := this
   rw [Array.all_eq_true'] at h2
   exact hsc x (h2 x (Array.mem_of_getElem? e))
 exact .agg hl.1 hl.2
end
structure Calm (c : Cfg) : Prop where
 deaf : c.deaf = 0
 cur : c.cur = none
 pend : c.pend = false
 kids : c.kids = []
 ub : c.ub = 0
section
variable {A : Nat -> Prop} {ty : TypeId} {FinN : Perm -> Perm -> Goroutine -> World -> Prop} {n : Nat}
def Two (bw : Nat) (a : Addr) : Prop := a = ⟨bw, 3, none⟩ ∨ a = ⟨bw, 4, none⟩
def Off (A : Nat -> Prop) (c : Cfg) (bw : Nat) (x : Nat) : Prop := Rq A c x /\ x ≠ bw
def Ofr (A : Nat -> Prop) (c : Cfg) (bw : Nat) (x : Nat) : Prop := Rr A c x /\ x ≠ bw
def SidesK (A : Nat -> Prop) (ty : TypeId) (FinN : Perm -> Perm -> Goroutine -> World -> Prop) (n : Nat) (tl tr : Tr) (bw : Nat) (c : Cfg) (w : World) (b : Frame) (cs : List Frame) : Prop :=
 ∀ c' w' bl br, ExtX ty (Two bw) c w c' w' -> w'.cell? ⟨bw, 3, none⟩ = some (.pointer (ptr bl)) -> w'.cell? ⟨bw, 4, none⟩ = some (.pointer (ptr br)) -> Sd nodeT (dgw n) (Off A c' bw) w' tl bl -> Sd nodeT (dgw n) (Off A c' bw) w' tr br ->
   ScS ty Tryz.prog FinN .work c' (G (b.finish (.tuple #[])) cs) w'
def SidesOk (ty : TypeId) (FinN : Perm -> Perm -> Goroutine -> World -> Prop) (n : Nat) (forks : Nat) (tl tr : Tr) : Prop :=
 ∀ (A : Nat -> Prop) (c : Cfg) (w : World) (bw bl br : Nat) (b : Frame) (cs : List Frame), Calm c -> Snug c w -> (∀ x, A x -> x < w.heap.size) -> 0 <= bw -> c.own ⟨bw, 3, none⟩ -> c.own ⟨bw, 4, none⟩ -> ¬ c.rd ⟨bw, 3, none⟩ -> ¬ c.rd ⟨bw, 4, none⟩ ->
   w.cell? ⟨bw, 3, none⟩ = some (.pointer (ptr bl)) -> w.cell? ⟨bw, 4, none⟩ = some (.pointer (ptr br)) -> w.frozen? ⟨bw, 3, none⟩ = false -> w.frozen? ⟨bw, 4, none⟩ = false ->
   Nd nodeT (dgw n) (Ofr A c bw) w tl bl -> Nd nodeT (dgw n) (Ofr A c bw) w tr br -> SidesK A ty FinN n tl tr bw c w b cs ->
   ScS ty Tryz.prog FinN .work c (live (Frame.enter Tryz.prog 63 #[.slice (some ⟨bw, 3, none⟩) 2 2, .int .i64 n, .int .i64 forks] .normal) (b :: cs)) w
def SealOk (ty : TypeId) (FinN : Perm -> Perm -> Goroutine -> World -> Prop) (n : Nat) (forks : Nat) (t : Tr) : Prop :=
 ∀ (A : Nat -> Prop) (c : Cfg) (w : World) (bn : Nat) (b : Frame) (cs : List Frame), Calm c -> Snug c w -> (∀ x, A x -> x < w.heap.size) -> Nd nodeT (dgw n) (Rr A c) w t bn -> SealK A ty (dgw n) FinN t c w b cs ->
   ScS ty Tryz.prog FinN .work c (live (Frame.enter Tryz.prog 50 #[.pointer (ptr bn), .int .i64 n, .int .i64 forks] .normal) (b :: cs)) w
theorem array52 (T : Array Value) (h : T.size = 52) : ∃ v0 v1 v2 v3 v4 v5 v6 v7 v8 v9 v10 v11 v12 v13 v14 v15 v16 v17 v18 v19 v20 v21 v22 v23 v24 v25 v26 v27 v28 v29 v30 v31 v32 v33 v34 v35 v36 v37 v38 v39 v40 v41 v42 v43 v44 v45 v46 v47 v48 v49 v50 v51 : Value, T = #[v0, v1, v2, v3, v4, v5, v6, v7, v8, v9, v10, v11, v12, v13, v14, v15, v16, v17, v18, v19, v20, v21, v22, v23, v24, v25, v26, v27, v28, v29, v30, v31, v32, v33, v34, v35, v36, v37, v38, v39, v40, v41, v42, v43, v44, v45, v46, v47, v48, v49, v50, v51] := by
 obtain ⟨l⟩ := T
 simp only [List.size_toArray] at h
 rcases l with _ | ⟨v0, l⟩
 · simp at h
 rcases l with _ | ⟨v1, l⟩
 · simp at h
 rcases l with _ | ⟨v2, l⟩
 · simp at h
 rcases l with _ | ⟨v3, l⟩
 · simp at h
 rcases l with _ | ⟨v4, l⟩
 · simp at h
 rcases l with _ | ⟨v5, l⟩
 · simp at h
 rcases l with _ | ⟨v6, l⟩
 · simp at h
 rcases l with _ | ⟨v7, l⟩
 · simp at h
 rcases l with _ | ⟨v8, l⟩
 · simp at h
 rcases l with _ | ⟨v9, l⟩
 · simp at h
 rcases l with _ | ⟨v10, l⟩
 · simp at h
 rcases l with _ | ⟨v11, l⟩
 · simp at h
 rcases l with _ | ⟨v12, l⟩
 · simp at h
 rcases l with _ | ⟨v13, l⟩
 · simp at h
 rcases l with _ | ⟨v14, l⟩
 · simp at h
 rcases l with _ | ⟨v15, l⟩
 · simp at h
 rcases l with _ | ⟨v16, l⟩
 · simp at h
 rcases l with _ | ⟨v17, l⟩
 · simp at h
 rcases l with _ | ⟨v18, l⟩
 · simp at h
 rcases l with _ | ⟨v19, l⟩
 · simp at h
 rcases l with _ | ⟨v20, l⟩
 · simp at h
 rcases l with _ | ⟨v21, l⟩
 · simp at h
 rcases l with _ | ⟨v22, l⟩
 · simp at h
 rcases l with _ | ⟨v23, l⟩
 · simp at h
 rcases l with _ | ⟨v24, l⟩
 · simp at h
 rcases l with _ | ⟨v25, l⟩
 · simp at h
 rcases l with _ | ⟨v26, l⟩
 · simp at h
 rcases l with _ | ⟨v27, l⟩
 · simp at h
 rcases l with _ | ⟨v28, l⟩
 · simp at h
 rcases l with _ | ⟨v29, l⟩
 · simp at h
 rcases l with _ | ⟨v30, l⟩
 · simp at h
 rcases l with _ | ⟨v31, l⟩
 · simp at h
 rcases l with _ | ⟨v32, l⟩
 · simp at h
 rcases l with _ | ⟨v33, l⟩
 · simp at h
 rcases l with _ | ⟨v34, l⟩
 · simp at h
 rcases l with _ | ⟨v35, l⟩
 · simp at h
 rcases l with _ | ⟨v36, l⟩
 · simp at h
 rcases l with _ | ⟨v37, l⟩
 · simp at h
 rcases l with _ | ⟨v38, l⟩
 · simp at h
 rcases l with _ | ⟨v39, l⟩
 · simp at h
 rcases l with _ | ⟨v40, l⟩
 · simp at h
 rcases l with _ | ⟨v41, l⟩
 · simp at h
 rcases l with _ | ⟨v42, l⟩
 · simp at h
 rcases l with _ | ⟨v43, l⟩
 · simp at h
 rcases l with _ | ⟨v44, l⟩
 · simp at h
 rcases l with _ | ⟨v45, l⟩
 · simp at h
 rcases l with _ | ⟨v46, l⟩
 · simp at h
 rcases l with _ | ⟨v47, l⟩
 · simp at h
 rcases l with _ | ⟨v48, l⟩
 · simp at h
 rcases l with _ | ⟨v49, l⟩
 · simp at h
 rcases l with _ | ⟨v50, l⟩
 · simp at h
 rcases l with _ | ⟨v51, l⟩
 · simp at h
 rcases l with _ | ⟨x, l⟩
 · exact ⟨_, _, _, _, _, _, _, _, _, _, _, _, _, _, _, _, _, _, _, _, _, _, _, _, _, _, _, _, _, _, _, _, _, _, _, _, _, _, _, _, _, _, _, _, _, _, _, _, _, _, _, _, rfl⟩
 · simp at h
theorem hush_sides (a : Addr) (w : World) (es : Array Event) : (Instr.sliceAt 87 (.pointer (some a)) none none none).events Tryz.prog w es = es := by
 simp [Instr.sliceAt, Instr.sliceBounds, Instr.sureAddr, Sem.events_bind, Hush.underlying _ _, Hush.sizeOf _ _, Tryz.runUnderlying87, go_sem]
structure Fb (A : Nat -> Prop) (ty : TypeId) (n : Nat) (c : Cfg) (w : World) (t : Tr) (bn : Nat) (l r : Option Addr) (bw : Nat) (c' : Cfg) (x : World) : Prop where
 ext : Ext ty c w c' x
 nd : Nd nodeT (dgw n) (Ofr A c' bw) x t bn
 at_ : ∃ d s, NodeAt nodeT x bn t.kind t.path t.value l r d s
 box : Boxed w t l r bw c' x
theorem fb_rely {c c' : Cfg} {w x y : World} {t : Tr} {bn bw : Nat} {l r : Option Addr} (h : Fb A ty n c w t bn l r bw c' x) (hr : Rely ty c' x y) : Fb A ty n c w t bn l r bw c' y :=
 ⟨h.ext.go hr, h.nd.same fun a ha => hr.same a (ha.1.2 a rfl), let ⟨d, s, e⟩ := h.at_; ⟨d, s, e.same fun a ha => hr.same a (h.nd.node.1.1.2 a ha)⟩, h.box.rely hr⟩
theorem node_inj {w : World} {b : Nat} {kind kind' : Int} {p v p' v' : ByteArray} {l r l' r' : Option Addr} {d d' : Int} {s s' : Bool} (h : NodeAt nodeT w b kind p v l r d s) (h' : NodeAt nodeT w b kind' p' v' l' r' d' s') : l' = l /\ r' = r := by
 have e3 := (node_cell h 3).symm.trans (node_cell h' 3)
 have e4 := (node_cell h 4).symm.trans (node_cell h' 4)
 simp [nodeCells] at e3 e4
 exact ⟨e3.symm, e4.symm⟩
theorem fb_kids {c c' : Cfg} {w x : World} {t : Tr} {bn bw : Nat} {l r : Option Addr} (h : Fb A ty n c w t bn l r bw c' x) {p : ByteArray} {tl tr : Tr} (ht : t = .branch p tl tr) : ∃ bl br, l = ptr bl /\ r = ptr br /\ Nd nodeT (dgw n) (Ofr A c' bw) x tl bl /\ Nd nodeT (dgw n) (Ofr A c' bw) x tr br := by
 obtain ⟨_, l', r', d', s', hN, _, hb, _⟩ := h.nd.node
 obtain ⟨d, s, hN2⟩ := h.at_
 obtain ⟨rfl, rfl⟩ := node_inj hN2 hN
 exact hb p tl tr ht
theorem fb_no {c c' : Cfg} {w x : World} {t : Tr} {bn bw : Nat} {l r : Option Addr} (h : Fb A ty n c w t bn l r bw c' x) (hk : t.kind ≠ 1) : l = none /\ r = none := by
 obtain ⟨_, l', r', d', s', hN, _, _, hn⟩ := h.nd.node
 obtain ⟨d, s, hN2⟩ := h.at_
 obtain ⟨rfl, rfl⟩ := node_inj hN2 hN
 exact hn hk
theorem fb_low {c c' : Cfg} {w x : World} {t : Tr} {bn bw : Nat} {l r : Option Addr} (S : Snug c w) (hA : ∀ x, A x -> x < w.heap.size) (hNd : Nd nodeT (dgw n) (Rr A c) w t bn) (h : Fb A ty n c w t bn l r bw c' x) : 0 <= bw /\ ¬ A bw := by
 have hR : Rr A c bn := hNd.node.1
 have h1 : bn < w.heap.size := S.low ⟨bn, 0, none⟩ (hR.2 _ rfl)
 exact ⟨Nat.le_trans hR.1.1.1 (Nat.le_of_lt (Nat.lt_of_lt_of_le h1 h.box.new)), fun e => Nat.lt_irrefl _ (Nat.lt_of_lt_of_le (hA _ e) h.box.new)⟩
theorem node_two {w x : World} {bw bl br : Nat} {kind : Int} {p v : ByteArray} {l r : Option Addr} {d : Int} {s : Bool} (h : NodeAt nodeT w bw kind p v l r d s) (hs : ∀ a : Addr, a.block = bw -> ¬ Two bw a -> Same a w x)
   (e3 : x.cell? ⟨bw, 3, none⟩ = some (.pointer (ptr bl))) (e4 : x.cell? ⟨bw, 4, none⟩ = some (.pointer (ptr br))) : NodeAt nodeT x bw kind p v (ptr bl) (ptr br) d s := by
 obtain ⟨fr, h⟩ := h
 have hS := hs ⟨bw, 0, none⟩ rfl (by simp [Two])
 have h1 : x.shape? bw = some (nodeT, 7) := by
   have := hS.shape
   simp only [World.shape?, h] at this ⊢
   exact this
 obtain ⟨c1, f1, e⟩ : ∃ c1 f1, x.heap[bw]? = some (.cells c1 nodeT f1) := by
   simp only [World.shape?] at h1
   cases hh : x.heap[bw]? with
   | none => rw [hh] at h1; simp at h1
   | some o =>
     rw [hh] at h1
     cases o <;> simp at h1
     obtain ⟨rfl, h2⟩ := h1
     exact ⟨_, _, rfl⟩
 refine ⟨f1, ?_⟩
 rw [e]
 congr 2
 refine Array.ext_getElem? fun i => ?_
 by_cases i3 : i = 3
 · subst i3
   simpa [World.cell?, e, nodeCells] using e3
 by_cases i4 : i = 4
 · subst i4
   simpa [World.cell?, e, nodeCells] using e4
 have := (hs ⟨bw, i, none⟩ rfl (by rintro (e | e) <;> (simp at e; first | done | omega))).cell
 simp only [World.cell?, e, h, Option.isSome_none, Bool.false_eq_true, if_false] at this
 rw [this]
 rcases i with _ | _ | _ | _ | _ | _ | _ | i <;> first | rfl | (exact absurd rfl i3) | (exact absurd rfl i4) | simp [nodeCells]
structure Fc (A : Nat -> Prop) (ty : TypeId) (n : Nat) (c : Cfg) (w : World) (t : Tr) (bw : Nat) (lp rp : Option Addr) (c2 : Cfg) (x : World) : Prop where
 ext : ExtX ty (fun _ => False) c w c2 x
 at_ : NodeAt nodeT x bw t.kind t.path t.value lp rp 0 true
 own : ∀ a : Addr, a.block = bw -> c2.own a
 low : 0 <= bw /\ ¬ A bw
 new : w.heap.size <= bw
 thaw : x.frozen? ⟨bw, 5, none⟩ = false
 kids : ∀ p tl tr, t = .branch p tl tr -> ∃ bl br, lp = ptr bl /\ rp = ptr br /\ Sd nodeT (dgw n) (Off A c2 bw) x tl bl /\ Sd nodeT (dgw n) (Off A c2 bw) x tr br
 no : t.kind ≠ 1 -> lp = none /\ rp = none
theorem fc_rely {c c2 : Cfg} {w x y : World} {t : Tr} {bw : Nat} {lp rp : Option Addr} (h : Fc A ty n c w t bw lp rp c2 x) (hr : Rely ty c2 x y) : Fc A ty n c w t bw lp rp c2 y :=
 ⟨h.ext.go hr, h.at_.same fun a e => hr.same a (.inl (h.own a e)), h.own, h.low, h.new, by rw [(hr.same ⟨bw, 5, none⟩ (.inl (h.own _ rfl))).frozen]; exact h.thaw,
   fun p tl tr e => let ⟨bl, br, h1, h2, h3, h4⟩ := h.kids p tl tr e; ⟨bl, br, h1, h2, h3.same fun a ha => hr.same a (ha.1.2 a rfl), h4.same fun a ha => hr.same a (ha.1.2 a rfl)⟩, h.no⟩
theorem fc_ext {c c2 c3 : Cfg} {w x y : World} {t : Tr} {bw : Nat} {lp rp : Option Addr} (h : Fc A ty n c w t bw lp rp c2 x) (E : Ext ty c2 x c3 y) : Fc A ty n c w t bw lp rp c3 y :=
 ⟨h.ext.trans (E.x (X := fun _ => False)) (fun _ e _ => e), h.at_.same fun a e => E.rely.same a (.inl (h.own a e)), fun a e => E.own a (h.own a e), h.low, h.new, by rw [(E.rely.same ⟨bw, 5, none⟩ (.inl (h.own _ rfl))).frozen]; exact h.thaw,
   fun p tl tr e => let ⟨bl, br, h1, h2, h3, h4⟩ := h.kids p tl tr e; ⟨bl, br, h1, h2, (h3.same fun a ha => E.rely.same a (ha.1.2 a rfl)).mono fun b hb => ⟨⟨hb.1.1, E.rof b hb.1.2⟩, hb.2⟩, (h4.same fun a ha => E.rely.same a (ha.1.2 a rfl)).mono fun b hb => ⟨⟨hb.1.1, E.rof b hb.1.2⟩, hb.2⟩⟩, h.no⟩
theorem node_set {w : World} {b : Nat} {kind : Int} {p v : ByteArray} {l r : Option Addr} {d d' : Int} {s : Bool} (h : NodeAt nodeT w b kind p v l r d s) : NodeAt nodeT (w.setCell ⟨b, 5, none⟩ (.int .i64 d')) b kind p v l r d' s := by
 obtain ⟨fr, h⟩ := h
 refine ⟨fr, ?_⟩
 simp [World.setCell, Array.getElem?_modify, h, nodeCells]
noncomputable def sealEnd : Code := match Tryz.f50.body.getD .skip with
 | .seq _ (.seq _ (.seq _ (.seq _ e))) => e
 | _ => .skip
def Fe (A : Nat -> Prop) (ty : TypeId) (n : Nat) (c : Cfg) (w : World) (t : Tr) (bw : Nat) (c2 : Cfg) (x : World) : Prop := ExtX ty (fun _ => False) c w c2 x /\ Sd nodeT (dgw n) (Rq A c2) x t bw
theorem fe_rely {c c2 : Cfg} {w x y : World} {t : Tr} {bw : Nat} (h : Fe A ty n c w t bw c2 x) (r : Rely ty c2 x y) : Fe A ty n c w t bw c2 y := ⟨h.1.go r, h.2.same fun a ha => r.same a (ha.2 a rfl)⟩
theorem fc_rq {c c2 : Cfg} {w x : World} {t : Tr} {bw : Nat} {lp rp : Option Addr} (h : Fc A ty n c w t bw lp rp c2 x) : Rq A c2 bw := ⟨h.low, fun a e => .inl (h.own a e)⟩
theorem fc_kids {c c2 : Cfg} {w x : World} {t : Tr} {bw : Nat} {lp rp : Option Addr} (h : Fc A ty n c w t bw lp rp c2 x) : ∀ p tl tr, t = .branch p tl tr -> ∃ bl br, lp = ptr bl /\ rp = ptr br /\ Sd nodeT (dgw n) (Rq A c2) x tl bl /\ Sd nodeT (dgw n) (Rq A c2) x tr br := fun p tl tr e =>
 let ⟨bl, br, h1, h2, h3, h4⟩ := h.kids p tl tr e
 ⟨bl, br, h1, h2, h3.mono fun _ h => h.1, h4.mono fun _ h => h.1⟩
theorem fc_end {c c2 : Cfg} {w x : World} {t : Tr} {bw : Nat} {lp rp : Option Addr} (S : Snug c w) (h : Fc A ty n c w t bw lp rp c2 x) : Fe A ty n c w t bw c2 (x.setCell ⟨bw, 5, none⟩ (.int .i64 (t.dig (dgw n)))) := by
 have hW := (ExtX.write (ty := ty) (v := .int .i64 (t.dig (dgw n))) h.ext.snug (h.own ⟨bw, 5, none⟩ rfl) ⟨_, node_cell h.at_ 5⟩).1
 have hN := node_set (d' := t.dig (dgw n)) h.at_
 refine ⟨h.ext.trans hW (fun a e ha => ?_), ?_⟩
 · subst e
   exact Nat.lt_irrefl _ (Nat.lt_of_lt_of_le (S.low ⟨bw, 5, none⟩ ha) h.new)
 · cases t with
   | empty => exact ⟨fc_rq h, by obtain ⟨rfl, rfl⟩ := h.no (by show (2 : Int) ≠ 1; decide); exact hN⟩
   | leaf p v => exact ⟨fc_rq h, by obtain ⟨rfl, rfl⟩ := h.no (by show (0 : Int) ≠ 1; decide); exact hN⟩
   | branch p tl tr =>
     obtain ⟨bl, br, rfl, rfl, h1, h2⟩ := h.kids p tl tr rfl
     refine ⟨fc_rq h, bl, br, hN, ?_, ?_⟩
     · exact (h1.same fun a ha => hW.same a (ha.1.2 a rfl) fun e => ha.2 (by rw [e])).mono fun _ h => h.1
     · exact (h2.same fun a ha => hW.same a (ha.1.2 a rfl) fun e => ha.2 (by rw [e])).mono fun _ h => h.1
theorem fc_of {c c' c2 : Cfg} {w x y : World} {t : Tr} {bn bw bl br bl' br' : Nat} {p : ByteArray} {tl tr : Tr} (S : Snug c w) (ht : t = .branch p tl tr) (hlow : 0 <= bw /\ ¬ A bw) (h : Fb A ty n c w t bn (ptr bl) (ptr br) bw c' x) (E : ExtX ty (Two bw) c' x c2 y)
   (e3 : y.cell? ⟨bw, 3, none⟩ = some (.pointer (ptr bl'))) (e4 : y.cell? ⟨bw, 4, none⟩ = some (.pointer (ptr br'))) (s1 : Sd nodeT (dgw n) (Off A c2 bw) y tl bl') (s2 : Sd nodeT (dgw n) (Off A c2 bw) y tr br') : Fc A ty n c w t bw (ptr bl') (ptr br') c2 y := by
 refine ⟨h.ext.x.trans E fun a e ha => ?_, node_two h.box.at_ (fun a e hn => E.same a (.inl (h.box.own a e)) hn) e3 e4, fun a e => E.own a (h.box.own a e), hlow, h.box.new, ?_, fun p' tl' tr' e => ?_, fun hk => ?_⟩
 · have h1 := S.low a ha
   have h2 := h.box.new
   rcases e with rfl | rfl <;> exact Nat.lt_irrefl _ (Nat.lt_of_lt_of_le h1 h2)
 · rw [(E.same ⟨bw, 5, none⟩ (.inl (h.box.own _ rfl)) (by simp [Two])).frozen]; exact h.box.thaw _
 · rw [ht] at e
   cases e
   exact ⟨bl', br', rfl, rfl, s1, s2⟩
 · rw [ht] at hk
   exact absurd rfl hk
set_option maxRecDepth 20000 in
set_option maxHeartbeats 4000000 in
theorem seal_end (hn : n <= 32) (t : Tr) (hW : Wf t) {c c2 : Cfg} {w x : World} {bw : Nat} {lp rp : Option Addr} {b : Frame} {cs : List Frame} {v0 v2 v3 v4 v5 v6 v8 v9 v10 v11 v12 v13 v14 v15 v16 v17 v18 v19 v20 v21 v22 v23 v24 v25 v26 v27 v28 v29 v30 v31 v32 v33 v34 v35 v36 v37 v38 v39 v40 v41 v42 v43 v44 v45 v46 v47 v48 v49 v50 v51 : Value}
   (S : Snug c w) (hG : Fc A ty n c w t bw lp rp c2 x) (K : SealK A ty (dgw n) FinN t c w b cs) :
   ScS ty Tryz.prog FinN .work c2 (G ((base 50).at ⟨#[v0, .int .i64 n, v2, v3, v4, v5, v6, .pointer (some ⟨bw, 0, none⟩), v8, v9, v10, v11, v12, v13, v14, v15, v16, v17, v18, v19, v20, v21, v22, v23, v24, v25, v26, v27, v28, v29, v30, v31, v32, v33, v34, v35, v36, v37, v38, v39, v40, v41, v42, v43, v44, v45, v46, v47, v48, v49, v50, v51], []⟩ [.code sealEnd]) (b :: cs)) x := by
 simp only [sealEnd, Tryz.f50, Option.getD_some]
 refine goes_run 60 (.inl rfl) rfl hG.ext.snug ?_
 u_c stepG_seq (fc_rely) hG
 u_reg (fc_rely) hG
 u_op (fc_rely) hG
 u_op (fc_rely) hG
 u_op (fc_rely) hG
 refine Goes.stop (fun w₁ h₁ => ?_)
 replace hG := fc_rely hG h₁
 clear h₁
 refine ScS.enter rfl hG.ext.snug rfl (by rfl) (by k_ne) rfl Tryz.func66 (by rfl) rfl ?_
 walk_nrm
 refine told_sc (n := n) hG.ext.snug hG.at_ (fc_rq hG) (fc_kids hG) hG.no (fun c3 y E => ?_)
 replace hG := fc_ext hG E
 clear E
 rw [Frame.finish_at]
 walk_nrm
 refine ScS.enter rfl hG.ext.snug rfl (by rfl) (by k_ne) rfl Tryz.func65 (by rfl) rfl ?_
 walk_nrm
 refine plain_sc (f := 65) (by simp [fns]) hG.ext.snug (heap_low hG.ext.snug (fc_rq hG)) (by simp [scal]) rfl (node_call n hn t hW) (fun c4 y E => ?_)
 replace hG := fc_ext hG E
 clear E
 rw [Frame.finish_at]
 walk_nrm
 refine ScS.enter rfl hG.ext.snug rfl (by rfl) (by k_ne) rfl Tryz.func64 (by rfl) rfl ?_
 walk_nrm
 refine plain_sc (f := 64) (by simp [fns]) hG.ext.snug (heap_low hG.ext.snug (fc_rq hG)) (by simp [scal]) rfl (of_call n hn t hW) (fun c5 y E => ?_)
 replace hG := fc_ext hG E
 clear E
 rw [Frame.finish_at]
 walk_nrm
 refine goes_run 60 (.inl rfl) rfl hG.ext.snug ?_
 u_op (fc_rely) hG
 u_op (fc_rely) hG
 refine Goes.stop (fun w₁ h₁ => ?_)
 replace hG := fc_rely hG h₁
 clear h₁
 refine ScS.write (x := ⟨bw, 5, none⟩) (v := .int .i64 (t.dig (dgw n))) rfl hG.ext.snug (hG.own _ rfl) rfl (by rfl) (by k_ne) (fun w₁ h₁ => ?_)
 replace hG := fc_rely hG h₁
 clear h₁
 have hc : w₁.cell? ⟨bw, 5, none⟩ = some (.int .i64 0) := (node_cell hG.at_ 5).trans rfl
 have hf := hG.thaw
 refine ⟨⟨_, hc⟩, by go_simp, fun e he => by simp [go_sem, hc, hf] at he; exact he, ?_⟩
 have hH := fc_end S hG
 clear hG hc hf
 walk_nrm
 refine goes_run 60 (.inl rfl) rfl hH.1.snug ?_
 u_c stepG_region_end (fe_rely) hH
 u_c stepG_seq (fe_rely) hH
 u_reg (fe_rely) hH
 u_op (fe_rely) hH
 u_op (fe_rely) hH
 u_c stepG_region_end (fe_rely) hH
 u_c stepG_ret' (fe_rely) hH
 refine Goes.stop (fun w₁ h₁ => ?_)
 replace hH := fe_rely hH h₁
 clear h₁
 exact ScS.ctl rfl rfl rfl hH.1.snug (fun w₁ => stepG_leave rfl rfl Tryz.func50 (results_tmp (t := 6) rfl _ _ _) (events_results_tmp (t := 6) rfl _ _)) (K _ _ bw hH.1 hH.2)
set_option maxRecDepth 20000 in
set_option maxHeartbeats 4000000 in
theorem seal_ok (hn : n <= 32) (forks : Nat) (t : Tr) (hW : Wf t) (hsides : ∀ p tl tr, t = .branch p tl tr -> SidesOk ty FinN n forks tl tr) : SealOk ty FinN n forks t := by
 intro A c w bn b cs hC S hA hNd K
 have hF : Fa A ty (dgw n) c w c t bn w := ⟨.refl S, hNd⟩
 rw [enter_at _ Tryz.func50 (by rfl)]
 walk_nrmf Tryz.f50
 show ScS ty Tryz.prog FinN .work c (G _ _) w
 simp only [ptr]
 refine goes_run 60 (.inl rfl) rfl hF.1.snug ?_
 u_c stepG_seq (fa_rely) hF
 u_reg (fa_rely) hF
 u_op (fa_rely) hF
 u_c stepG_region_end (fa_rely) hF
 u_c stepG_seq (fa_rely) hF
 u_c stepG_seq (fa_rely) hF
 u_reg (fa_rely) hF
 u_op (fa_rely) hF
 u_op (fa_rely) hF
 u_op (fa_rely) hF
 refine Goes.stop (fun w₁ h₁ => ?_)
 replace hF := fa_rely hF h₁
 clear h₁
 obtain ⟨hR, l, r, d, s, hN, hs, hb, hk⟩ := hF.2.node
 refine ScS.read (v := .bool s) rfl hF.1.snug rfl (by rfl) (by k_ne) (fun w₁ h₁ => ?_) ?_
 · have hc : w₁.cell? ⟨bn, 6, none⟩ = some (.bool s) := (node_cell (hN.same fun a e => h₁.same a (hR.2 a e)) 6).trans rfl
   exact ⟨by go_simp, fun e he => by simp [go_sem, hc] at he; subst he; exact ⟨_, rfl, hR.2 _ rfl⟩⟩
 walk_nrm
 cases s with
 | true =>
   have hsd := (hs rfl).mono rr_rq
   clear hs hb hk hN
   have hF2 : Fa A ty (dgw n) c w c t bn w₁ /\ Sd nodeT (dgw n) (Rq A c) w₁ t bn := ⟨hF, hsd⟩
   clear hF hsd
   have rl : ∀ {x y : World}, (Fa A ty (dgw n) c w c t bn x /\ Sd nodeT (dgw n) (Rq A c) x t bn) -> Rely ty c x y -> (Fa A ty (dgw n) c w c t bn y /\ Sd nodeT (dgw n) (Rq A c) y t bn) := fun h r => ⟨fa_rely h.1 r, h.2.same fun a ha => r.same a (ha.2 a rfl)⟩
   refine goes_run 60 (.inl rfl) rfl hF2.1.1.snug ?_
   u_c stepG_region_end rl hF2
   u_cond true rl hF2
   u_c stepG_seq rl hF2
   u_reg rl hF2
   u_op rl hF2
   u_op rl hF2
   u_c stepG_region_end rl hF2
   u_c stepG_ret' rl hF2
   refine Goes.stop (fun w₁ h₁ => ?_)
   replace hF2 := rl hF2 h₁
   clear h₁
   exact ScS.ctl rfl rfl rfl hF2.1.1.snug (fun w₁ => stepG_leave rfl rfl Tryz.func50 (results_tmp (t := 6) rfl _ _ _) (events_results_tmp (t := 6) rfl _ _)) (K c _ bn hF2.1.1.x hF2.2)
 | false =>
   refine goes_run 60 (.inl rfl) rfl hF.1.snug ?_
   u_c stepG_region_end (fa_rely) hF
   u_cond false (fa_rely) hF
   u_c stepG_skip (fa_rely) hF
   u_c stepG_seq (fa_rely) hF
   refine Goes.stop (fun w₁ h₁ => ?_)
   replace hF := fa_rely hF h₁
   clear h₁ hs hb hk hN hR
   obtain ⟨hR, l, r, d, s, hN, -, hb, hk⟩ := hF.2.node
   refine seal_r3 (width := n) (forks := forks) (lp := l) (rp := r) hF ⟨d, s, hN⟩ rfl rfl rfl rfl rfl ?_
   intro a c' w' bw ts df t0 t1 t2 t7 hF' hN' hB
   obtain ⟨T, ds⟩ := a
   replace df : ds = [] := df
   subst df
   obtain ⟨v0, v1, v2, v3, v4, v5, v6, v7, v8, v9, v10, v11, v12, v13, v14, v15, v16, v17, v18, v19, v20, v21, v22, v23, v24, v25, v26, v27, v28, v29, v30, v31, v32, v33, v34, v35, v36, v37, v38, v39, v40, v41, v42, v43, v44, v45, v46, v47, v48, v49, v50, v51, rfl⟩ := array52 T ts
   simp only [Array.getD_eq_getD_getElem?, List.getElem?_toArray, List.getElem?_cons_succ, List.getElem?_cons_zero, Option.getD_some] at t0 t1 t2 t7
   subst t0 t1 t2 t7
   have hG : Fb A ty n c w t bn l r bw c' w' := by
     refine ⟨hF'.1, (hNd.same fun a ha => hF'.1.rely.same a (ha.2 a rfl)).mono fun x hx => ⟨rr_ext S hF'.1 x hx, fun e => ?_⟩, hN', hB⟩
     have h1 := S.low ⟨x, 0, none⟩ (hx.2 _ rfl)
     have h2 := hB.new
     have h3 : x < w.heap.size := h1
     omega
   clear hF hF' hB hN hN' hb hk hR
   simp only []
   refine goes_run 60 (.inl rfl) rfl hG.ext.snug ?_
   u_c stepG_seq (fb_rely) hG
   u_c stepG_seq (fb_rely) hG
   u_reg (fb_rely) hG
   u_op (fb_rely) hG
   u_op (fb_rely) hG
   u_op (fb_rely) hG
   refine Goes.stop (fun w₁ h₁ => ?_)
   replace hG := fb_rely hG h₁
   clear h₁
   refine ScS.read (v := .int .i64 t.kind) rfl hG.ext.snug rfl (by rfl) (by k_ne) (fun w₁ h₁ => ?_) ?_
   · obtain ⟨d, s, hN⟩ := hG.at_
     have hR : Rr A c' bn := hG.nd.node.1.1
     have hc : w₁.cell? ⟨bn, 0, none⟩ = some (.int .i64 t.kind) := (node_cell (hN.same fun a e => h₁.same a (hR.2 a e)) 0).trans rfl
     exact ⟨by go_simp, fun e he => by simp [go_sem, hc] at he; subst he; exact ⟨_, rfl, hR.2 _ rfl⟩⟩
   walk_nrm
   by_cases hbr : ∃ p tl tr, t = .branch p tl tr
   · obtain ⟨p, tl, tr, ht⟩ := hbr
     have hk1 : t.kind = 1 := by rw [ht]; rfl
     simp only [hk1]
     refine goes_run 60 (.inl rfl) rfl hG.ext.snug ?_
     u_op (fb_rely) hG
     u_c stepG_region_end (fb_rely) hG
     u_cond true (fb_rely) hG
     u_reg (fb_rely) hG
     u_op (fb_rely) hG
     u_op (fb_rely) hG
     u_op (fb_rely) hG
     refine Goes.stop (fun w₁ h₁ => ?_)
     replace hG := fb_rely hG h₁
     clear h₁
     refine ScS.read (v := .slice (some ⟨bw, 3, none⟩) 2 2) rfl hG.ext.snug rfl (by rfl) (by k_ne) (fun w₁ h₁ => ⟨by go_simp, fun e he => by simp [go_sem, hush_sides] at he⟩) ?_
     walk_nrm
     refine goes_run 60 (.inl rfl) rfl hG.ext.snug ?_
     u_op (fb_rely) hG
     u_op (fb_rely) hG
     refine Goes.stop (fun w₁ h₁ => ?_)
     replace hG := fb_rely hG h₁
     clear h₁
     refine ScS.enter rfl hG.ext.snug rfl (by rfl) (by k_ne) rfl Tryz.func63 (by rfl) rfl ?_
     walk_nrm
     obtain ⟨bl, br, rfl, rfl, h1, h2⟩ := fb_kids hG ht
     have hc := hG.ext.cfg
     have hC' : Calm c' := by rw [hc]; exact ⟨hC.deaf, hC.cur, hC.pend, hC.kids, hC.ub⟩
     have hlow := fb_low S hA hNd hG
     refine hsides p tl tr ht A c' _ bw bl br _ _ hC' hG.ext.snug (fun x h => Nat.lt_of_lt_of_le (hA x h) hG.ext.rely.size) hlow.1 (hG.box.own _ rfl) (hG.box.own _ rfl) (hG.box.nrd _ rfl) (hG.box.nrd _ rfl) (node_cell hG.box.at_ 3) (node_cell hG.box.at_ 4) (hG.box.thaw _) (hG.box.thaw _) h1 h2 ?_
     intro c2 x bl' br' E e3 e4 s1 s2
     rw [Frame.finish_at]
     walk_nrm
     have hH := fc_of S ht hlow hG E e3 e4 s1 s2
     refine goes_run 60 (.inl rfl) rfl hH.ext.snug ?_
     u_c stepG_region_end (fc_rely) hH
     refine Goes.stop (fun w₁ h₁ => ?_)
     replace hH := fc_rely hH h₁
     clear h₁
     exact seal_end hn t hW S hH K
   · have hk : t.kind ≠ 1 := by
       cases t with
       | empty => show (2 : Int) ≠ 1; decide
       | leaf p v => show (0 : Int) ≠ 1; decide
       | branch p l r => exact absurd ⟨_, _, _, rfl⟩ hbr
     have hk2 : (t.kind == 1) = false := by simpa using hk
     have hlow := fb_low S hA hNd hG
     refine goes_run 60 (.inl rfl) rfl hG.ext.snug ?_
     u_op (fb_rely) hG
     u_c stepG_region_end (fb_rely) hG
     u_cond false (fb_rely) hG
     u_c stepG_skip (fb_rely) hG
     refine Goes.stop (fun w₁ h₁ => ?_)
     replace hG := fb_rely hG h₁
     clear h₁
     refine seal_end hn t hW S (lp := l) (rp := r) ⟨hG.ext.x, hG.box.at_, hG.box.own, hlow, hG.box.new, hG.box.thaw _, fun p tl tr e => absurd ⟨_, _, _, e⟩ hbr, fun _ => fb_no hG hk⟩ K
end
end Go.Proofs.YtddcbeeldjjmeaaGreat
