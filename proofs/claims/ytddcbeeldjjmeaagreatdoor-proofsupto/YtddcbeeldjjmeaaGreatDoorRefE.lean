/- The document's answer: what is written. -/
import Derived.Test.YtddcbeeldjjmeaaGreatDoorEncN
namespace Go.Proofs.YtddcbeeldjjmeaaGreatDoor.Tw
open Go.RowKit Go.Proofs.YtddcbeeldjjmeaaGreatDoor.Pu
set_option linter.unusedVariables false
set_option linter.unusedSimpArgs false

theorem S_append (a b : List UInt8) : S a ++ S b = S (a ++ b) := by
  apply ByteArray.ext
  simp [S, ByteArray.data_append]

set_option maxRecDepth 20000 in
set_option maxHeartbeats 400000 in
theorem rnumber_any (n : Nat) (w : World) (hn : n < 268435456) :
    Calls Tryz.prog 46 #[.int .i64 n] w fun e w' => e = .returned (.string (S (eNum n))) ∧ Below w.heap.size w w' := by
  go_enter Tryz.func46, Tryz.ntmps46
  go_wp2
  go_loopw [0, 3] (fun x s wr => ∃ (l' : List UInt8) (m f : Nat), l' ++ eNumF f m = eNum n ∧ m < 128 ^ f ∧ 1 ≤ f ∧ m < 268435456 ∧ l'.length + f ≤ 10 ∧ x = .int .i64 m ∧ s = .string (S l') ∧ Below w.heap.size w wr) (fun x _ _ => (intOf x).toNat)
  case atStart => exact ⟨[], n, 10, rfl, by omega, by omega, hn, by simp, rfl, rfl, Below.refl _ _⟩
  case round =>
    obtain ⟨l', m, f, he, hm, hf, hm28, hlf, rfl, rfl, hb⟩ := hrel
    have hs1 := S_size l'
    have hl10 : l'.length ≤ 10 := by omega
    have HA : Hid (l' ++ eNumF f m = eNum n ∧ m < 128 ^ f ∧ 1 ≤ f ∧ l'.length + f ≤ 10) := ⟨he, hm, hf, hlf⟩
    clear he hm hf hlf
    by_cases hlt : m < 128
    · have hs2 := S_size [b8 m]
      have hc := (Own.one wr.heap.size wr (b8 m) m (by rw [b8_toNat m (by omega)]) (Nat.le_refl _)).run (by simp)
      go_wp2
      go_ret
      obtain ⟨he, hm, hf, hlf⟩ := HA.out
      obtain ⟨f, rfl⟩ : ∃ g, f = g + 1 := ⟨f - 1, by omega⟩
      rw [eNumF_lt f m hlt] at he
      refine ⟨?_, hb.alloc hb.size _⟩
      rw [← he, ← S_append]
      rfl
    · have h127 : 128 ≤ (m : Int) := by omega
      have hs2 := S_size [b8 (128 + m % 128)]
      have hc := (Own.one wr.heap.size wr (b8 (128 + m % 128)) (128 + (m : Int) % 128) (by rw [b8_toNat _ (by omega)]; omega) (Nat.le_refl _)).run (by simp)
      go_wp2
      go_roundw
      case rel =>
        obtain ⟨he, hm, hf, hlf⟩ := HA.out
        obtain ⟨f, rfl⟩ : ∃ g, f = g + 1 := ⟨f - 1, by omega⟩
        rw [eNumF_ge f m hlt] at he
        have hf1 : 1 ≤ f := by
          rcases f with _ | f
          · simp at hm; omega
          · omega
        refine ⟨l' ++ [b8 (128 + m % 128)], m / 128, f, by rw [← he]; simp, by rw [Nat.pow_succ] at hm; omega, hf1, by omega, by rw [List.length_append]; simp; omega, by go_num, by rw [← S_append], hb.alloc hb.size _⟩
      case measure => simp [intOf]; omega
theorem ris32_any (n : Int) (w : World) :
    Calls Tryz.prog 48 #[.int .i64 n] w fun e w' => e = .returned (.bool (is32 n)) ∧ w' = w := by
  by_cases h0 : 0 ≤ n
  · by_cases h1 : n < 4294967296
    · have hb : is32 n = true := by simp [is32]; omega
      rw [hb]; clear hb
      go_enter Tryz.func48, Tryz.ntmps48
      go_wp2
      go_ret
      exact ⟨rfl, rfl⟩
    · have hb : is32 n = false := by simp [is32]; omega
      rw [hb]; clear hb
      go_enter Tryz.func48, Tryz.ntmps48
      go_wp2
      go_ret
      exact ⟨rfl, rfl⟩
  · have hb : is32 n = false := by simp [is32]; omega
    rw [hb]; clear hb
    go_enter Tryz.func48, Tryz.ntmps48
    go_wp2
    go_ret
    exact ⟨rfl, rfl⟩

theorem Own.four (base : Nat) (w : World) (a b c d : UInt8) (x y z u : Int) (hx : x = a.toNat) (hy : y = b.toNat) (hz : z = c.toNat) (hu : u = d.toNat) (hb : base ≤ w.heap.size) :
    Own base (w.alloc (.cells #[.int .u8 x, .int .u8 y, .int .u8 z, .int .u8 u] 5)) (.slice (some ⟨w.heap.size, 0, none⟩) 4 4) [a, b, c, d] := by
  subst hx hy hz hu
  refine ⟨by simp [cellsB], Or.inr ⟨w.heap.size, 4, _, rfl, hb, heap_alloc_new w _, Nat.le_refl _, by decide, by simp, by simp [cellsB]⟩⟩

set_option maxRecDepth 20000 in
set_option maxHeartbeats 400000 in
theorem rfour_any (n : Int) (w : World) (h0 : 0 ≤ n) (hn : n < 4294967296) :
    Calls Tryz.prog 50 #[.int .i64 n] w fun e w' => e = .returned (.string (S (e4 n.toNat))) ∧ Below w.heap.size w w' := by
  obtain ⟨N, rfl⟩ := Int.eq_ofNat_of_zero_le h0
  have hc := fun x y z u hx hy hz hu => (Own.four w.heap.size w (b8 (N / 16777216 % 256)) (b8 (N / 65536 % 256)) (b8 (N / 256 % 256)) (b8 (N % 256)) x y z u hx hy hz hu (Nat.le_refl _)).run (by simp)
  have hc1 := hc ((N : Int) / 16777216) ((N : Int) / 65536 % 256) ((N : Int) / 256 % 256) ((N : Int) % 256) (by rw [b8_toNat _ (by omega)]; omega) (by rw [b8_toNat _ (by omega)]; omega) (by rw [b8_toNat _ (by omega)]; omega) (by rw [b8_toNat _ (by omega)]; omega)
  clear hc
  go_enter Tryz.func50, Tryz.ntmps50
  go_wp2
  go_ret
  exact ⟨rfl, (Below.refl _ w).alloc (Nat.le_refl _) _⟩

set_option maxRecDepth 20000 in
set_option maxHeartbeats 400000 in
theorem risPath_any (s : List UInt8) (w : World) (hl : s.length ≤ 9223372036854775807) :
    Calls Tryz.prog 47 #[.string (S s)] w fun e w' => e = .returned (.bool (isPb s)) ∧ w' = w := by
  have hss := S_size s
  go_enter Tryz.func47, Tryz.ntmps47
  go_wp2
  go_loop [3] (fun i => ∃ k : Nat, k ≤ s.length ∧ i = .int .i64 k ∧ ∀ j (h : j < k) (hj : j < s.length), s[j] = 48 ∨ s[j] = 49) (fun i => s.length - (intOf i).toNat)
  case atStart => exact ⟨0, by omega, rfl, fun j h => by omega⟩
  case round =>
    obtain ⟨k, hk, rfl, hall⟩ := hrel
    have HA : Hid _ := hall
    clear hall
    by_cases hlt : k < s.length
    · have hg : ∀ h, (S s)[k]'h = s[k] := fun h => S_get s k h
      by_cases h48 : s[k] = 48
      · have hg' : ∀ h, ((S s)[k]'h).toNat = 48 := fun h => (congrArg UInt8.toNat (hg h)).trans (congrArg UInt8.toNat h48)
        clear hg
        go_wp2
        go_round
        case rel =>
          refine ⟨k + 1, by omega, by go_num, fun j h hj => ?_⟩
          by_cases e : j = k
          · subst e; exact Or.inl h48
          · exact HA.out j (by omega) hj
        case measure => simp [intOf]; omega
      · by_cases h49 : s[k] = 49
        · have hg' : ∀ h, ((S s)[k]'h).toNat = 49 := fun h => (congrArg UInt8.toNat (hg h)).trans (congrArg UInt8.toNat h49)
          clear hg
          go_wp2
          go_round
          case rel =>
            refine ⟨k + 1, by omega, by go_num, fun j h hj => ?_⟩
            by_cases e : j = k
            · subst e; exact Or.inr h49
            · exact HA.out j (by omega) hj
          case measure => simp [intOf]; omega
        · have hb : isPb s = false := by
            have : ¬ isP s := fun h => by
              rcases h.1 s[k] (List.getElem_mem hlt) with e | e
              · exact h48 e
              · exact h49 e
            rw [← isPb_iff] at this
            simpa using this
          have n48 : ∀ h, ¬ ((S s)[k]'h).toNat = 48 := fun h e => h48 ((hg h).symm.trans (UInt8.toNat_inj.1 e))
          have n49 : ∀ h, ¬ ((S s)[k]'h).toNat = 49 := fun h e => h49 ((hg h).symm.trans (UInt8.toNat_inj.1 e))
          have hz : k < (S s).size := by omega
          have m48 := n48 hz
          have m49 := n49 hz
          have b48 : (((((S s)[k]'hz).toNat : Nat) : Int) != 48) = true := by simp; omega
          have b49 : (((((S s)[k]'hz).toNat : Nat) : Int) != 49) = true := by simp; omega
          have HB : Hid _ := hb
          clear hg h48 h49 n48 n49 hb
          go_wp2
          go_ret
          exact ⟨by rw [HB.out]; rfl, rfl⟩
    · have hb : isPb s = decide (s.length ≤ 37) := by
        have hall : s.all (fun c => c == 48 || c == 49) = true := by
          rw [List.all_eq_true]
          intro c hc
          obtain ⟨j, hj, rfl⟩ := List.getElem_of_mem hc
          have := HA.out j (by omega) hj
          simpa using this
        unfold isPb
        rw [hall, Bool.true_and]
      have HB : Hid _ := hb
      clear hb
      go_wp2
      go_ret
      refine ⟨?_, rfl⟩
      rw [HB.out]
      exact ret_bool (by first | rfl | (simp; done) | (simp; omega))
/-- The first k bits of byte j, as a number. -/
def pre (s : List UInt8) (j : Nat) : Nat → Nat
  | 0 => 0
  | k + 1 => 2 * pre s j k + bit s (8 * j + k)
theorem pre_lt (s : List UInt8) (j k : Nat) : pre s j k < 2 ^ k := by
  induction k with
  | zero => simp [pre]
  | succ k ih => have := bit_le s (8 * j + k); simp only [pre, Nat.pow_succ]; omega
theorem pre_full (s : List UInt8) (j : Nat) : pre s j 8 = packB s j := by
  simp only [pre, packB, Nat.add_zero]
  omega
theorem pack_take (s : List UInt8) (j : Nat) (h : j < (s.length + 7) / 8) : (pack s).take (j + 1) = (pack s).take j ++ [b8 (packB s j)] := by
  have hl := pack_length s
  rw [List.take_succ_eq_append_getElem (by omega)]
  congr 2
  simp [pack]

set_option maxRecDepth 20000 in
set_option maxHeartbeats 1000000 in
theorem rpath_any (s : List UInt8) (w : World) (hs : s.length ≤ 37) :
    Calls Tryz.prog 49 #[.string (S s)] w fun e w' => e = .returned (.string (S (ePath s))) ∧ Below w.heap.size w w' := by
  have hss := S_size s
  have hk := fun w => rnumber_any s.length w (by omega)
  have hel : (eNum s.length).length ≤ 10 := eNumF_len 10 s.length
  have hpl := pack_length s
  go_enter Tryz.func49, Tryz.ntmps49
  go_wp2_with fail
  refine (hk _).mono ?_
  rintro e w1 ⟨rfl, hb1⟩
  clear hk
  go_wp2_with fail
  go_loopw [3, 4] (fun o i wr => ∃ j : Nat, j ≤ (s.length + 7) / 8 ∧ i = .int .i64 (8 * (j : Int)) ∧ o = .string (S (eNum s.length ++ (pack s).take j)) ∧ Below w.heap.size w wr) (fun _ i _ => s.length + 8 - (intOf i).toNat)
  case atStart => exact ⟨0, by omega, rfl, by simp, hb1⟩
  case round =>
    obtain ⟨j, hj, rfl, rfl, hb⟩ := hrel
    have hos := S_size (eNum s.length ++ (pack s).take j)
    by_cases hlt : 8 * j < s.length
    · have hj5 : j ≤ 4 := by omega
      have hltI : 8 * (j : Int) < (s.length : Int) := by omega
      have hltD : decide (8 * (j : Int) < (s.length : Int)) = true := decide_eq_true hltI
      go_wp2_with fail
      go_loop [5, 6] (fun v x => ∃ k : Nat, k ≤ 8 ∧ v = .int .i64 (pre s j k : Nat) ∧ x = .int .i64 k) (fun _ x => 8 - (intOf x).toNat)
      case atStart => exact ⟨0, by omega, rfl, rfl⟩
      case round =>
        obtain ⟨k, hk8, rfl, rfl⟩ := hrel
        have hpr := pre_lt s j k
        have hp256 : pre s j k < 256 := Nat.lt_of_lt_of_le hpr (by have := Nat.pow_le_pow_right (n := 2) (by decide : 2 > 0) hk8; simpa using this)
        have hpe : pre s j (k + 1) = 2 * pre s j k + bit s (8 * j + k) := rfl
        have HPE : Hid _ := hpe
        clear hpe hpr
        by_cases hkk : k < 8
        · by_cases hin : 8 * j + k < s.length
          · have hg : ∀ h, (S s)[8 * j + k]'h = s[8 * j + k] := fun h => S_get s (8 * j + k) h
            have hz : 8 * j + k < (S s).size := by omega
            have hbt : s[8 * j + k]? = some s[8 * j + k] := List.getElem?_eq_getElem hin
            by_cases h49 : s[8 * j + k] = 49
            · have e49 : ((S s)[8 * j + k]'hz).toNat = 49 := (congrArg UInt8.toNat (hg hz)).trans (congrArg UInt8.toNat h49)
              have hb1' : bit s (8 * j + k) = 1 := by unfold bit; rw [hbt, if_pos (congrArg some h49)]
              have HB : Hid _ := hb1'
              clear hg hbt h49 hb1'
              go_wp2
              go_round
              case rel =>
                  first
                    | exact ⟨k + 1, by omega, by rw [HPE.out, HB.out]; go_num, by go_num⟩
                    | exact ⟨k + 1, by omega, by rw [HPE.out, HB.out]; omega, by omega⟩
                    | (refine And.intro trivial ?_
                       repeat apply Exists.intro
                       refine And.intro ?_ rfl
                       exact ⟨k + 1, by omega, by rw [HPE.out, HB.out]; go_num, by go_num⟩)
                    | (refine And.intro trivial ?_
                       repeat apply Exists.intro
                       · refine And.intro ?_ rfl
                         exact ⟨k + 1, by omega, by rw [HPE.out, HB.out]; go_num, by go_num⟩)
              case measure => simp [intOf]; omega
            · have e49 : ¬ ((S s)[8 * j + k]'hz).toNat = 49 := fun e => h49 ((hg hz).symm.trans (UInt8.toNat_inj.1 e))
              have hb1' : bit s (8 * j + k) = 0 := by unfold bit; rw [hbt, if_neg (fun e => h49 (Option.some.inj e))]
              have b49 : (((((S s)[8 * j + k]'hz).toNat : Nat) : Int) == 49) = false := by simp; omega
              have HB : Hid _ := hb1'
              clear hg hbt h49 hb1'
              go_wp2
              go_round
              case rel =>
                  first
                    | exact ⟨k + 1, by omega, by rw [HPE.out, HB.out]; go_num, by go_num⟩
                    | exact ⟨k + 1, by omega, by rw [HPE.out, HB.out]; omega, by omega⟩
                    | (refine And.intro trivial ?_
                       repeat apply Exists.intro
                       refine And.intro ?_ rfl
                       exact ⟨k + 1, by omega, by rw [HPE.out, HB.out]; go_num, by go_num⟩)
                    | (refine And.intro trivial ?_
                       repeat apply Exists.intro
                       · refine And.intro ?_ rfl
                         exact ⟨k + 1, by omega, by rw [HPE.out, HB.out]; go_num, by go_num⟩)
              case measure => simp [intOf]; omega
          · have hb1' : bit s (8 * j + k) = 0 := bit_out s _ (by omega)
            have HB : Hid _ := hb1'
            clear hb1'
            go_wp2
            go_round
            case rel =>
                  first
                    | exact ⟨k + 1, by omega, by rw [HPE.out, HB.out]; go_num, by go_num⟩
                    | exact ⟨k + 1, by omega, by rw [HPE.out, HB.out]; omega, by omega⟩
                    | (refine And.intro trivial ?_
                       repeat apply Exists.intro
                       refine And.intro ?_ rfl
                       exact ⟨k + 1, by omega, by rw [HPE.out, HB.out]; go_num, by go_num⟩)
                    | (refine And.intro trivial ?_
                       repeat apply Exists.intro
                       · refine And.intro ?_ rfl
                         exact ⟨k + 1, by omega, by rw [HPE.out, HB.out]; go_num, by go_num⟩)
            case measure => simp [intOf]; omega
        · obtain rfl : k = 8 := by omega
          have hpf := pre_full s j
          have hpb := packB_lt s j
          have hc := fun W => (Own.one W.heap.size W (b8 (packB s j)) (packB s j : Nat) (by rw [b8_toNat _ hpb]) (Nat.le_refl _)).run (by simp)
          rw [hpf] at hp256 ⊢
          have hs2 := S_size [b8 (packB s j)]
          have hlen : (eNum s.length ++ (pack s).take j).length ≤ 20 := by rw [List.length_append, List.length_take]; omega
          have HT : Hid _ := pack_take s j (by omega)
          clear hpf
          go_wp2
          go_roundw
          case rel => exact ⟨j + 1, by omega, by go_num, by rw [HT.out, ← List.append_assoc]; exact congrArg Value.string (S_append _ _), hb.alloc hb.size _⟩
          case measure => simp [intOf]; omega
    · go_wp2
      go_ret
      refine ⟨?_, hb⟩
      have e : (pack s).take j = pack s := List.take_of_length_le (by omega)
      rw [e]
      rfl
end Go.Proofs.YtddcbeeldjjmeaaGreatDoor.Tw
