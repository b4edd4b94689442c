/- What the program calls of the library: strings.Trim, Contains, Clone. -/
import Derived.Test.YtddcbeeldjjmeaaGreatDoorShelf
import Derived.Test.YtddcbeeldjjmeaaGreatDoorRead
import Derived.Lib.Bytealg
import Derived.Lib.IndexLaws
import Derived.Shelf.Strings.Search1
namespace Go.Proofs.YtddcbeeldjjmeaaGreatDoor.Tw
open Go.RowKit Go.Proofs.YtddcbeeldjjmeaaGreatDoor.Pu Go.Shelf
set_option linter.unusedVariables false
set_option linter.unusedSimpArgs false

theorem dropWhile_nil {α : Type} (p : α → Bool) (l : List α) : l.dropWhile p = [] ↔ ∀ c, c ∈ l → p c = true := by
  induction l with
  | nil => simp
  | cons a l ih =>
    by_cases h : p a = true
    · rw [List.dropWhile_cons_of_pos h, ih]; simp [h]
    · rw [List.dropWhile_cons_of_neg h]; simp; intro h'; exact absurd h' h
theorem trimS_nil (l : List UInt8) : Lib.trimS l [48, 49] = [] ↔ ∀ c, c ∈ l → c = 48 ∨ c = 49 := by
  unfold Lib.trimS Lib.trimLeftS Lib.trimRightS
  rw [dropWhile_nil]
  constructor
  · intro h c hc
    by_cases hp : ([48, 49] : List UInt8).contains c = true
    · simpa using hp
    · exfalso
      apply hp
      apply h
      rw [List.mem_reverse]
      have hr : c ∈ l.reverse := List.mem_reverse.2 hc
      generalize l.reverse = m at hr
      clear h
      induction m with
      | nil => cases hr
      | cons a m ih =>
        by_cases ha : ([48, 49] : List UInt8).contains a = true
        · rw [List.dropWhile_cons_of_pos (by exact ha)]
          rcases List.mem_cons.1 hr with rfl | hm
          · exact absurd ha hp
          · exact ih hm
        · rw [List.dropWhile_cons_of_neg (by simpa using ha)]
          exact hr
  · intro h c hc
    have hm : c ∈ l := by
      rw [List.mem_reverse] at hc
      exact List.mem_reverse.1 ((List.dropWhile_sublist _).mem hc)
    simpa using h c hm

theorem trim_any (s : ByteArray) (w : World) (hs : s.size ≤ 9223372036854775807) :
    Calls Tryz.prog 235 #[.string s, .string ⟨#[48, 49]⟩] w fun e w' => e = .returned (.string (S (Lib.trimS s.data.toList [48, 49]))) ∧ Below w.heap.size w w' := by
  have hcon := Any.strings_Trim_laid Tryz.lays160 (by kernel_rfl) s ⟨#[48, 49]⟩ w hs (by decide) (ascii_of_all (by decide))
  exact hcon

theorem clone_any (s : ByteArray) (w : World) (hs : s.size ≤ 281474976710656) :
    Calls Tryz.prog 86 #[.string s] w fun e w' => e = .returned (.string s) ∧ Below w.heap.size w w' := by
  have hcon := Any.stringslite_Clone Tryz.lays316 s w hs
  change Calls Tryz.prog 135 _ _ (fun e w' => e = .returned (.string s) ∧ Below w.heap.size w w') at hcon
  go_enter Tryz.func86, Tryz.ntmps86
  go_wp2_with (go_at_call 135; refine hcon.mono ?_; rintro e w' ⟨rfl, hb⟩)
  go_ret
  exact ⟨rfl, hb⟩

theorem indexByte_mem (l : List UInt8) (c : UInt8) : (0 ≤ Lib.indexByte l c) ↔ c ∈ l := by
  induction l with
  | nil => simp [Lib.indexByte]
  | cons b l ih =>
    have hge := Lib.indexByte_ge l c
    unfold Lib.indexByte
    by_cases h : b = c
    · simp [h]
    · have hb : (b == c) = false := by simpa using h
      rw [hb]
      by_cases h1 : Lib.indexByte l c = -1
      · rw [h1] at ih ⊢
        have : c ∉ l := fun hm => by have := ih.2 hm; omega
        simp [this]
        exact fun e => h e.symm
      · have h1b : (Lib.indexByte l c == -1) = false := by simpa using h1
        simp only [h1b, Bool.false_eq_true, if_false]
        constructor
        · intro _; exact List.mem_cons_of_mem _ (ih.1 (by omega))
        · intro _; omega

theorem ibs_any (s : ByteArray) (c : Int) (w : World) :
    Calls Tryz.prog 344 #[.string s, .int .u8 c] w fun e w' => e = .returned (.int .i64 (Lib.indexByte s.data.toList c.toNat.toUInt8)) ∧ w' = w := by
  have hx : ∀ W : World, (callFunc 354 #[.string s, .int .u8 c]).run Tryz.prog W = .ok (.value (.int .i64 (Lib.indexByte s.data.toList c.toNat.toUInt8))) W := fun W => by
    rw [@run_callFunc_extern Tryz.prog 354 _ Extern.BytealgIndexByte.indexByte Tryz.func354 (by kernel_rfl) (by kernel_rfl) (by kernel_rfl) (by kernel_rfl), Lib.run_indexByteString]
    rfl
  go_enter Tryz.func344, Tryz.ntmps344
  go_wp2
  go_ret
  exact ⟨rfl, rfl⟩

theorem contains_one (l : List UInt8) (w : World) :
    Calls Tryz.prog 278 #[.string (S l), .string ⟨#[49]⟩] w fun e w' => e = .returned (.bool (decide ((49 : UInt8) ∈ l))) ∧ w' = w := by
  by_cases h : ([49] == (S l).toList) = true
  · have hl : l = [49] := by
      have := beq_iff_eq.1 h
      rw [Lib.toList_data, S_list] at this
      exact this.symm
    have hb : decide ((49 : UInt8) ∈ l) = true := by rw [hl]; rfl
    rw [hb]
    clear hb hl
    go_enter Tryz.func278, Tryz.ntmps278
    go_wp2
    go_ret
    exact ⟨rfl, rfl⟩
  · have h' : ([49] == (S l).toList) = false := by simpa using h
    clear h
    have hi := indexByte_mem l 49
    have hge := Lib.indexByte_ge l 49
    have hk := ibs_any (S l) 49 w
    rw [S_list] at hk
    rw [show (49 : Int).toNat.toUInt8 = 49 from rfl] at hk
    have hb : decide ((49 : UInt8) ∈ l) = decide (0 ≤ Lib.indexByte l 49) := decide_eq_decide.2 hi.symm
    rw [hb]
    clear hi hb
    generalize Lib.indexByte l 49 = r at *
    go_enter Tryz.func278, Tryz.ntmps278
    go_wp2_with (first | (go_at_call 344; refine hk.mono ?_; rintro e w' ⟨rfl, rfl⟩) | go_in)
    go_ret
    exact ⟨rfl, rfl⟩
end Go.Proofs.YtddcbeeldjjmeaaGreatDoor.Tw
