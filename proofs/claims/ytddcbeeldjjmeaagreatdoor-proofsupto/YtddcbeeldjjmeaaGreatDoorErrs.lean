/- Errors as values: how they are wrapped, asked with errors.Is, and turned into numbers. -/
import Derived.Test.YtddcbeeldjjmeaaGreatDoorChecked
import Derived.Test.YtddcbeeldjjmeaaGreatDoorBase
import Derived.Deep.LoopGhost
namespace Go.Proofs.YtddcbeeldjjmeaaGreatDoor.Tw
open Go.RowKit Go.Extern.Stop Go.Stop Go.Extern

theorem ret_bool {a b : Bool} (h : a = b) : Ending.returned (.bool a) = .returned (.bool b) := by rw [h]
theorem ret_int {k : IntKind} {a b : Int} (h : a = b) : Ending.returned (.int k a) = .returned (.int k b) := by rw [h]

theorem at_raw (p : ByteArray) (t : TypeId) (x : Value) (w : World) :
    Calls Tryz.prog 100 #[.string p, .iface t x] w fun e w' => e = .returned (.iface 227 (.agg #[.string p, .iface t x])) ∧ w' = w := by
  have hc : Tryz.prog.concrete 227 = true := by kernel_rfl
  go_enter Tryz.func100, Tryz.ntmps100
  go_wp2
  go_ret
  exact ⟨rfl, rfl⟩

theorem at_bad {A : Nat → Addr} (p : ByteArray) (v : Value) (w : World) (h : Bad A v) :
    Calls Tryz.prog 100 #[.string p, v] w fun e w' => ∃ t x, e = .returned (.iface t x) ∧ Bad A (.iface t x) ∧ w' = w := by
  have hw := h.wrap p
  obtain ⟨g, ps, hg, rfl⟩ := h
  obtain ⟨t, x, hx⟩ := errv_form A g ps
  rw [hx] at hw ⊢
  exact (at_raw p t x w).mono fun e w' ⟨he, hw'⟩ => ⟨_, _, he, hw, hw'⟩
theorem at_nob {A : Nat → Addr} (p : ByteArray) (v : Value) (w : World) (h : NoB A v) :
    Calls Tryz.prog 100 #[.string p, v] w fun e w' => ∃ t x, e = .returned (.iface t x) ∧ NoB A (.iface t x) ∧ w' = w := by
  have hw := h.wrap p
  obtain ⟨ps, rfl⟩ := h
  obtain ⟨t, x, hx⟩ := errv_form A nob ps
  rw [hx] at hw ⊢
  exact (at_raw p t x w).mono fun e w' ⟨he, hw'⟩ => ⟨_, _, he, hw, hw'⟩

theorem unwrap_any (p : ByteArray) (v : Value) (w : World) :
    Calls Tryz.prog 375 #[.agg #[.string p, v]] w fun e w' => e = .returned v ∧ w' = w.alloc (.cells #[.string p, v] 227) := by
  go_enter Tryz.func375, Tryz.ntmps375
  go_wp2
  go_ret
  exact ⟨rfl, rfl⟩

theorem isTypeOf (v : Value) (w : World) : (Extern.ReflectliteType.typeOf #[.iface 423 v]).run Tryz.prog w = .ok (.iface 334 (.agg #[.pointer (some ⟨34, 423, none⟩)])) w := by kernel_rfl
theorem callComparable (w : World) : (callFunc 379 #[.agg #[.pointer (some ⟨34, 423, none⟩)]]).run Tryz.prog w = .ok (.value (.bool true)) w := by kernel_rfl
theorem isComp : (Tryz.prog.info? 423).map (·.comparable) = some true := by kernel_rfl
theorem isSize : (Tryz.prog.info? 445).map (·.size) = some 1 := by kernel_rfl
theorem noIsE (v : Value) (xT : TypeId) (w : World) : (Instr.typeAssert (.iface 423 v) xT 336 true).run Tryz.prog w = .ok (.tuple #[.nilIface, .bool false]) w := run_typeAssert_lacksB Tryz.underlying336 (by kernel_rfl) (by kernel_rfl) v xT w
theorem noUnwrapE (v : Value) (xT : TypeId) (w : World) : (Instr.typeAssert (.iface 423 v) xT 338 true).run Tryz.prog w = .ok (.tuple #[.nilIface, .bool false]) w := run_typeAssert_lacksB Tryz.underlying338 (by kernel_rfl) (by kernel_rfl) v xT w
theorem noUnwrapsE (v : Value) (xT : TypeId) (w : World) : (Instr.typeAssert (.iface 423 v) xT 339 true).run Tryz.prog w = .ok (.tuple #[.nilIface, .bool false]) w := run_typeAssert_lacksB Tryz.underlying339 (by kernel_rfl) (by kernel_rfl) v xT w
theorem noIsF (v : Value) (xT : TypeId) (w : World) : (Instr.typeAssert (.iface 227 v) xT 336 true).run Tryz.prog w = .ok (.tuple #[.nilIface, .bool false]) w := run_typeAssert_lacksB Tryz.underlying336 (by kernel_rfl) (by kernel_rfl) v xT w
theorem hasUnwrapF (v : Value) (xT : TypeId) (w : World) : (Instr.typeAssert (.iface 227 v) xT 338 true).run Tryz.prog w = .ok (.tuple #[.iface 227 v, .bool true]) w := run_typeAssert_hasB Tryz.underlying338 (by kernel_rfl) v xT w

theorem run_eql_held_nil' (t : TypeId) (v : Value) (w : World) : (Go.binOp .eql 95 (.iface t v) .nilIface).run Tryz.prog w = .ok (.bool false) w := by
  have h : ∀ d : Nat, (Op.equalIn (d + 1) 95 (.iface t v) .nilIface).run Tryz.prog w = .ok false w := fun d => by simp [Op.equalIn, run_underlying Tryz.underlying95]
  simp only [Go.binOp]
  simp [Op.equal, Op.maxDepth, h 9999]

theorem is_any (A : Nat → Addr) (B : Nat) (w : World) (hS : Sents A B w) (g h : Nat) (hg : g ∈ sents) (hh : h ∈ sents) (ps : List ByteArray) :
    Calls Tryz.prog 230 #[errv A g ps, ptrE (A h), .bool true] w fun e w' => e = .returned (.bool (decide (g = h))) ∧ Below w.heap.size w w' := by
  obtain ⟨i, hi, hcmp⟩ := Option.map_eq_some_iff.1 isComp
  obtain ⟨j, hj, hjs⟩ := Option.map_eq_some_iff.1 isSize
  have nE := noIsE
  have uE := noUnwrapE
  have vE := noUnwrapsE
  have nF := noIsF
  have uF := hasUnwrapF
  go_enter Tryz.func230, Tryz.ntmps230
  go_wp2
  go_loopg [0] ps.length (fun k v wr => ∃ qs, qs.length = k ∧ v = errv A g qs ∧ Below w.heap.size w wr)
  case atStart => exact ⟨ps, rfl, rfl, Below.refl _ _⟩
  case round =>
    obtain ⟨qs, rfl, rfl, hb⟩ := hrel
    have hS' := hS.to (hb.mono hS.size)
    cases qs with
    | nil =>
      by_cases e : g = h
      · subst e
        have heq := run_eql_iface_ptr_same (P := Tryz.prog) wr (A g) Tryz.underlying95 Tryz.underlying423 hi hcmp hj
        simp only [errv, ptrE]
        go_wp2
        go_ret
        exact ⟨by simp, hb⟩
      · obtain ⟨ca, ta, ha⟩ := hS'.heap g hg
        obtain ⟨cb, tb, hbb⟩ := hS'.heap h hh
        have heq := run_eql_iface_ptr_other (P := Tryz.prog) wr Tryz.underlying95 Tryz.underlying423 hi hcmp hj (by rw [hjs]; decide) (hS'.ne g h hg hh e) ha hbb
        simp only [errv, ptrE]
        go_wp2
        go_ret
        exact ⟨by simp [e], hb⟩
    | cons p qs =>
      obtain ⟨t, x, hx⟩ := errv_form A g qs
      have hnil := run_eql_held_nil' t x
      have hty := run_eql_iface_types (P := Tryz.prog) 227 423 (.agg #[.string p, .iface t x]) (.pointer (some (A h))) Tryz.underlying95 (by decide) wr
      have HX : Hid _ := hx
      simp only [errv, ptrE, hx]
      clear hx
      go_wp2
      go_roundg qs.length
      case measure => simp
      case rel => exact ⟨qs, rfl, HX.out.symm, hb.trans ((Below.refl _ _).alloc (by have := hb.size; omega) _)⟩

theorem Is_any (A : Nat → Addr) (B : Nat) (w : World) (hS : Sents A B w) (g h : Nat) (hg : g ∈ sents) (hh : h ∈ sents) (ps : List ByteArray) :
    Calls Tryz.prog 153 #[errv A g ps, ptrE (A h)] w fun e w' => e = .returned (.bool (decide (g = h))) ∧ Below w.heap.size w w' := by
  obtain ⟨t, x, hx⟩ := errv_form A g ps
  have hk := is_any A B w hS g h hg hh ps
  have hT := @run_callFunc_extern Tryz.prog 229 _ Extern.ReflectliteType.typeOf Tryz.func229 (by kernel_rfl) (by kernel_rfl) (by kernel_rfl) (by kernel_rfl)
  have cC := callComparable
  have tT := isTypeOf
  have hn1 := run_eql_held_nil' t x
  have hn2 := run_eql_held_nil' 423 (.pointer (some (A h)))
  rw [hx] at hk ⊢
  clear hx
  unfold ptrE at hk ⊢
  go_enter Tryz.func153, Tryz.ntmps153
  go_wp2_with (first | (go_at_call 230; refine hk.mono ?_; rintro e w' ⟨rfl, hb⟩))
  go_ret
  exact ⟨rfl, hb⟩

theorem Sents.all {A : Nat → Addr} {B : Nat} {w : World} (h : Sents A B w) : w.cell? ⟨0, 0, none⟩ = some (.iface 423 (.pointer (some (A 0)))) ∧ w.cell? ⟨1, 0, none⟩ = some (.iface 423 (.pointer (some (A 1)))) ∧ w.cell? ⟨2, 0, none⟩ = some (.iface 423 (.pointer (some (A 2)))) ∧ w.cell? ⟨3, 0, none⟩ = some (.iface 423 (.pointer (some (A 3)))) ∧ w.cell? ⟨4, 0, none⟩ = some (.iface 423 (.pointer (some (A 4)))) ∧ w.cell? ⟨5, 0, none⟩ = some (.iface 423 (.pointer (some (A 5)))) ∧ w.cell? ⟨6, 0, none⟩ = some (.iface 423 (.pointer (some (A 6)))) ∧ w.cell? ⟨7, 0, none⟩ = some (.iface 423 (.pointer (some (A 7)))) ∧ w.cell? ⟨8, 0, none⟩ = some (.iface 423 (.pointer (some (A 8)))) ∧ w.cell? ⟨9, 0, none⟩ = some (.iface 423 (.pointer (some (A 9)))) ∧ w.cell? ⟨10, 0, none⟩ = some (.iface 423 (.pointer (some (A 10)))) ∧ w.cell? ⟨11, 0, none⟩ = some (.iface 423 (.pointer (some (A 11)))) ∧ w.cell? ⟨12, 0, none⟩ = some (.iface 423 (.pointer (some (A 12)))) ∧ w.cell? ⟨13, 0, none⟩ = some (.iface 423 (.pointer (some (A 13)))) ∧ w.cell? ⟨14, 0, none⟩ = some (.iface 423 (.pointer (some (A 14)))) :=
  ⟨h.var _ (by decide), h.var _ (by decide), h.var _ (by decide), h.var _ (by decide), h.var _ (by decide), h.var _ (by decide), h.var _ (by decide), h.var _ (by decide), h.var _ (by decide), h.var _ (by decide), h.var _ (by decide), h.var _ (by decide), h.var _ (by decide), h.var _ (by decide), h.var _ (by decide)⟩

/-- Is the sentinel one of the ways in which bytes are wrong? -/
def wayB (g : Nat) : Bool := decide (g ∈ ways)

set_option maxHeartbeats 1000000 in
theorem wrong_any (A : Nat → Addr) (B : Nat) (w : World) (hS : Sents A B w) (g : Nat) (hg : g ∈ sents) (ps : List ByteArray) :
    Calls Tryz.prog 101 #[errv A g ps] w fun e w' => e = .returned (.bool (wayB g)) ∧ Below w.heap.size w w' := by
  have h1 := hS.all
  have hB := Below.refl w.heap.size w
  go_enter Tryz.func101, Tryz.ntmps101
  go_wp2_with (go_at_call 153; refine (Is_any A B _ (by assumption) g _ hg (by decide) ps).mono ?_; rintro e w' ⟨rfl, hb⟩; replace hS := hS.to (hb.mono hS.size); replace hB := hB.trans (hb.mono hB.size); clear hb; replace h1 := hS.all)
  all_goals
    go_ret
    refine ⟨ret_bool ?_, hB⟩
    simp only [sents, ways, nob, List.mem_cons, List.not_mem_nil, or_false] at hg
    rw [Bool.eq_iff_iff]
    simp only [wayB, ways, decide_eq_true_eq, List.mem_cons, List.not_mem_nil, or_false]
    first | omega | (simp; omega)

theorem errno_nil (w : World) : Calls Tryz.prog 44 #[.nilIface] w fun e w' => e = .returned (.int .i64 0) ∧ w' = w := by
  have hn : (Go.binOp .eql 95 .nilIface .nilIface).run Tryz.prog w = .ok (.bool true) w := by
    have h : ∀ d : Nat, (Op.equalIn (d + 1) 95 .nilIface .nilIface).run Tryz.prog w = .ok true w := fun d => by simp [Op.equalIn, run_underlying Tryz.underlying95]
    simp only [Go.binOp]
    simp [Op.equal, Op.maxDepth, h 9999]
  go_enter Tryz.func44, Tryz.ntmps44
  go_wp2
  go_ret
  exact ⟨rfl, rfl⟩
theorem errno_bad (A : Nat → Addr) (B : Nat) (v : Value) (w : World) (hS : Sents A B w) (hv : Bad A v) :
    Calls Tryz.prog 44 #[v] w fun e w' => e = .returned (.int .i64 4) ∧ Below w.heap.size w w' := by
  obtain ⟨g, ps, hg, rfl⟩ := hv
  have hw := wrong_any A B w hS g (List.mem_cons_of_mem _ hg) ps
  have hb : wayB g = true := by unfold wayB; simpa using hg
  rw [hb] at hw
  obtain ⟨t, x, hx⟩ := errv_form A g ps
  have hn := run_eql_held_nil' t x w
  rw [hx] at hw ⊢
  clear hx hb
  go_enter Tryz.func44, Tryz.ntmps44
  go_wp2_with (go_at_call 101; refine hw.mono ?_; rintro e w' ⟨rfl, hb⟩)
  go_ret
  exact ⟨rfl, hb⟩
theorem errno_nob (A : Nat → Addr) (B : Nat) (v : Value) (w : World) (hS : Sents A B w) (hv : NoB A v) :
    Calls Tryz.prog 44 #[v] w fun e w' => e = .returned (.int .i64 3) ∧ Below w.heap.size w w' := by
  obtain ⟨ps, rfl⟩ := hv
  have hw := wrong_any A B w hS nob (List.mem_cons_self ..) ps
  have hb : wayB nob = false := by decide
  rw [hb] at hw
  obtain ⟨t, x, hx⟩ := errv_form A nob ps
  have hn := run_eql_held_nil' t x w
  rw [hx] at hw ⊢
  clear hx hb
  go_enter Tryz.func44, Tryz.ntmps44
  go_wp2_with (go_at_call 101; refine hw.mono ?_; rintro e w' ⟨rfl, hb⟩)
  go_ret
  exact ⟨rfl, hb⟩
end Go.Proofs.YtddcbeeldjjmeaaGreatDoor.Tw
