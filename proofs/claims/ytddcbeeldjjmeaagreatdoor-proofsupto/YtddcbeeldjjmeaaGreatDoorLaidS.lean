/- A list of variables that are laid: every sentinel on it, wherever it stands, and no two of them at one place. -/
import Derived.Test.YtddcbeeldjjmeaaGreatDoorBase
import Derived.LaidLaws
import Derived.MakeChecks
namespace Go.Proofs.YtddcbeeldjjmeaaGreatDoor.Sn
open Go
set_option linter.unusedVariables false

/-- An error as errors.New makes it, read through. -/
abbrev sentD (nm : String) (text : List UInt8) : DataW Unit := .iface nm (.ptr (.agg [.lit (.string text)]))

theorem row1 (a : Addr) : MemPlace.row a 1 = [.cell a.block a.off] := by simp [MemPlace.row]

theorem laid_sents {P : Program} {W : World} {nm : String} {ti tp te ts : TypeId} {ms : Array (String × TypeId)} {f : Field}
    (hi : P.underlying ti = some (.interface ms)) (hrow : ∀ u, P.typeName? 3 u = some nm → u = tp)
    (hp : P.underlying tp = some (.pointer te)) (he : P.underlying te = some (.struct #[f])) (hft : f.type = ts) (hfo : f.offset = 0) (hs : P.underlying ts = some .string) (hc : P.cellsOf te = 1) (hcs : P.cellsOf ts = 1)
    (N : String → Prop) (hN : ∀ n, N n → ∃ g, P.globalNamed n = some g ∧ (P.globals[g]?).map (·.type) = some ti) :
    ∀ (l : List (String × DataW Unit)) (ps : List MemPlace), DataW.LaidVars P W l ps → ps.Nodup →
      (∀ b off, MemPlace.cell b off ∈ ps → (∃ c t, W.heap[b]? = some (.cells c t (0, 0))) ∧ ∀ u v, W.cell? ⟨b, off, none⟩ = some (.iface u v) → Value.okWide P W .any 0 u v) →
      ∃ A : String → Addr, (∀ n text, N n → (n, sentD nm text) ∈ l → ∃ g, P.globalNamed n = some g ∧ W.cell? ⟨g, 0, none⟩ = some (.iface tp (.pointer (some (A n)))) ∧ (∃ c t, W.heap[(A n).block]? = some (.cells c t (0, 0))) ∧ MemPlace.cell (A n).block (A n).off ∈ ps) ∧
        ∀ n1 n2 t1 t2, N n1 → N n2 → n1 ≠ n2 → (n1, sentD nm t1) ∈ l → (n2, sentD nm t2) ∈ l → A n1 ≠ A n2
  | [], ps, h, _, _ => ⟨fun _ => ⟨0, 0, none⟩, fun _ _ _ hm => (by cases hm), fun _ _ _ _ _ _ _ hm => (by cases hm)⟩
  | (n, d) :: r, ps, h, hnd, hrows => by
    obtain ⟨g, t, cs, fu, p, q, hg, ht, hv, hd, hr, rfl⟩ := h
    have hnq : q.Nodup := (List.nodup_append.1 hnd).2.1
    have hdis : ∀ x, x ∈ p → x ∈ q → False := fun x hx hq => by
      have := (List.nodup_append.1 hnd).2.2 x (List.mem_append_right _ hx) x hq
      exact this rfl
    have hrq : ∀ b off, MemPlace.cell b off ∈ q → (∃ c t, W.heap[b]? = some (.cells c t (0, 0))) ∧ ∀ u v, W.cell? ⟨b, off, none⟩ = some (.iface u v) → Value.okWide P W .any 0 u v := fun b off hb => hrows b off (List.mem_append_right _ hb)
    obtain ⟨A, hA1, hA2⟩ := laid_sents hi hrow hp he hft hfo hs hc hcs N hN r q hr hnq hrq
    by_cases hx : N n ∧ ∃ text, d = sentD nm text
    · obtain ⟨hn, text, rfl⟩ := hx
      obtain ⟨g', hg', ht'⟩ := hN n hn
      obtain rfl := Option.some.inj (hg.symm.trans hg')
      obtain rfl := Option.some.inj (ht.symm.trans ht')
      obtain ⟨l0⟩ := cs
      have ok0 : ∀ u v, l0 = [.iface u v] → Value.okWide P W .any 0 u v := fun u v e => by
        subst e
        exact (hrows g 0 (by simp [MemPlace.row])).2 u v (by simpa using World.var?_cell hg hv 0)
      obtain ⟨a0, s0, rfl, hc0, hs0, hz0, rfl⟩ := errorString_of_trod hi hrow hp he hft hfo hs hc hcs hd ok0
      have hcell : W.cell? ⟨g, 0, none⟩ = some (.iface tp (.pointer (some a0))) := by simpa using World.var?_cell hg hv 0
      have hmem : MemPlace.cell a0.block a0.off ∈ MemPlace.row ⟨g, 0, none⟩ 1 ++ MemPlace.row a0 1 ++ q := by rw [row1 a0]; simp
      have hblk := (hrows a0.block a0.off hmem).1
      refine ⟨fun m => if m = n then a0 else A m, fun m text' hm hmem' => ?_, fun n1 n2 t1 t2 h1 h2 hne hm1 hm2 => ?_⟩
      · dsimp only
        by_cases e : m = n
        · rw [if_pos e, e]
          exact ⟨g, hg, hcell, hblk, hmem⟩
        · rw [if_neg e]
          rcases List.mem_cons.1 hmem' with e' | e'
          · exact absurd (congrArg Prod.fst e') e
          · obtain ⟨g2, k1, k2, k3, k4⟩ := hA1 m text' hm e'
            exact ⟨g2, k1, k2, k3, List.mem_append_right _ k4⟩
      · dsimp only
        by_cases e1 : n1 = n
        · have e2 : n2 ≠ n := fun e => hne (e1.trans e.symm)
          rw [if_pos e1, if_neg e2]
          rcases List.mem_cons.1 hm2 with e' | e'
          · exact absurd (congrArg Prod.fst e') e2
          · obtain ⟨g2, k1, k2, k3, k4⟩ := hA1 n2 t2 h2 e'
            intro e
            rw [← e] at k4
            exact hdis _ (by rw [row1 a0]; simp) k4
        · rw [if_neg e1]
          rcases List.mem_cons.1 hm1 with e' | e'
          · exact absurd (congrArg Prod.fst e') e1
          · by_cases e2 : n2 = n
            · rw [if_pos e2]
              obtain ⟨g2, k1, k2, k3, k4⟩ := hA1 n1 t1 h1 e'
              intro e
              rw [e] at k4
              exact hdis _ (by rw [row1 a0]; simp) k4
            · rw [if_neg e2]
              rcases List.mem_cons.1 hm2 with e'' | e''
              · exact absurd (congrArg Prod.fst e'') e2
              · exact hA2 n1 n2 t1 t2 h1 h2 hne e' e''
    · have hno : ∀ m text, N m → (m, sentD nm text) ∈ (n, d) :: r → (m, sentD nm text) ∈ r := fun m text hm hmem => by
        rcases List.mem_cons.1 hmem with e | e
        · have e1 := congrArg Prod.fst e
          have e2 := congrArg Prod.snd e
          simp only at e1 e2
          exact absurd ⟨e1 ▸ hm, text, e2.symm⟩ hx
        · exact e
      refine ⟨A, fun m text hm hmem => ?_, fun n1 n2 t1 t2 h1 h2 hne hm1 hm2 => hA2 n1 n2 t1 t2 h1 h2 hne (hno _ _ h1 hm1) (hno _ _ h2 hm2)⟩
      obtain ⟨g2, k1, k2, k3, k4⟩ := hA1 m text hm (hno _ _ hm hmem)
      exact ⟨g2, k1, k2, k3, List.mem_append_right _ k4⟩

/-! ### The package's fifteen -/
def nameL : List (Nat × String) := [(0, "twig/wire.ErrNoBytes"), (1, "twig/wire.ErrShort"), (2, "twig/wire.ErrOver"), (3, "twig/wire.ErrLong"), (4, "twig/wire.ErrBig"), (5, "twig/wire.ErrPadding"), (6, "twig/wire.ErrKind"), (7, "twig/wire.ErrBits"), (8, "twig/wire.ErrValue"), (9, "twig/wire.ErrSteps"), (10, "twig/wire.ErrSide"), (11, "twig/wire.ErrWidth"), (12, "twig/wire.ErrSize"), (13, "twig/wire.ErrTotal"), (14, "twig/wire.ErrDigest")]
def nameOf (g : Nat) : String := (nameL.lookup g).getD ""
theorem len_list (s : ByteArray) : s.data.toList.length = s.size := rfl
theorem named_all : (Tw.sents.all fun g => Tryz.prog.globalNamed (nameOf g) == some g) = true := by kernel_rfl
theorem typed_all : (Tw.sents.all fun g => (Tryz.prog.globals[g]?).map (·.type) == some 95) = true := by kernel_rfl
theorem star : "*" ++ "errors.errorString" = "*errors.errorString" := by decide
theorem rowE (u : TypeId) (h : Tryz.prog.typeName? 3 u = some "*errors.errorString") : u = 423 :=
  typeName_ptr_named (nm := "errors.errorString") (by rw [star]; kernel_rfl) (by kernel_rfl) (by decide) u (by rw [star]; exact h)
theorem cellsE : Tryz.prog.cellsOf 445 = 1 := by kernel_rfl
theorem cellsS : Tryz.prog.cellsOf 9 = 1 := by kernel_rfl

theorem sents_of_laid {W : World} {l : List (String × DataW Unit)} (h : laidMet Tryz.prog l W) (hall : ∀ g, g ∈ Tw.sents → ∃ text, (nameOf g, sentD "*errors.errorString" text) ∈ l) :
    ∃ A : Nat → Addr, Tw.Sents A W.heap.size W := by
  obtain ⟨ps, hv, hnd, hrows⟩ := h
  have hnm : ∀ g, g ∈ Tw.sents → Tryz.prog.globalNamed (nameOf g) = some g := fun g hg => by simpa using List.all_eq_true.1 named_all g hg
  have hty : ∀ g, g ∈ Tw.sents → (Tryz.prog.globals[g]?).map (·.type) = some 95 := fun g hg => by simpa using List.all_eq_true.1 typed_all g hg
  obtain ⟨A, h1, h2⟩ := laid_sents Tryz.underlying95 rowE Tryz.underlying423 Tryz.underlying445 rfl rfl Tryz.underlying9 cellsE cellsS (fun n => ∃ g, g ∈ Tw.sents ∧ n = nameOf g)
    (fun n ⟨g, hg, e⟩ => ⟨g, by rw [e]; exact hnm g hg, hty g hg⟩) l ps hv hnd hrows
  have key : ∀ g, g ∈ Tw.sents → W.cell? ⟨g, 0, none⟩ = some (Tw.ptrE (A (nameOf g))) ∧ ∃ c t, W.heap[(A (nameOf g)).block]? = some (.cells c t (0, 0)) := fun g hg => by
    obtain ⟨text, hm⟩ := hall g hg
    obtain ⟨g', k1, k2, k3, _⟩ := h1 (nameOf g) text ⟨g, hg, rfl⟩ hm
    rw [hnm g hg] at k1
    cases k1
    exact ⟨k2, k3⟩
  refine ⟨fun g => A (nameOf g), fun g hg => (key g hg).1, fun g h hg hh hne => ?_, fun g hg => (key g hg).2, fun g hg => Tw.cell_lt (key g hg).1, fun g hg => ?_, Nat.le_refl _⟩
  · obtain ⟨t1, m1⟩ := hall g hg
    obtain ⟨t2, m2⟩ := hall h hh
    refine h2 _ _ t1 t2 ⟨g, hg, rfl⟩ ⟨h, hh, rfl⟩ (fun e => hne ?_) m1 m2
    have e1 := hnm g hg
    rw [e, hnm h hh] at e1
    exact (Option.some.inj e1).symm
  · obtain ⟨c, t, hb⟩ := (key g hg).2
    by_cases hl : (A (nameOf g)).block < W.heap.size
    · exact hl
    · rw [Array.getElem?_eq_none (by omega)] at hb; cases hb
end Go.Proofs.YtddcbeeldjjmeaaGreatDoor.Sn
