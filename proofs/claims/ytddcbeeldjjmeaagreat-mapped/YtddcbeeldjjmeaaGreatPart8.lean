/- THE LIBRARY's WaitGroup, BY SCRIPTS: Wait. -/
import Derived.Test.YtddcbeeldjjmeaaGreatPart7
import Derived.OrdersHeld
import Derived.Conc.CompanyDraw
import Derived.Test.YtddcbeeldjjmeaaGreatPart6
namespace Go.Nest
open Go Go.Conc Go.Eq Go.RowKit Go.Conc.Lib Go.ConcR.Gen Go.ConcN.Gen
open Go.ConcR (KK WgAt stA smA rd wr mk DC0)
open Go.ConcN (WgLive st_flag st_waiters)
abbrev joined (c0 : Cfg) (l : List (Perm × Perm)) : Cfg := { c0 with deaf := 0, pend := false, own := fun a => c0.own a ∨ anyOf l (·.1) a, rd := fun a => c0.rd a ∨ anyOf l (·.2) a, cur := none, ub := 0, kids := [] }
section
variable {L : WgLink} {P : Program} {FinN : Perm -> Perm -> Goroutine -> World -> Prop} {c0 : Cfg} {z : Nat} {w0 : World} {b₀ : Frame} {a₀ : Act} {ops₀ : Array Oper} {i₀ : Nat} {rest₀ : List Nat} {k₀ : List Item} {cs : List Frame}
def Oks (c0 : Cfg) (l : List (Perm × Perm)) (w : World) : Prop := l.length = c0.kids.length /\ ∀ x ∈ l.zip c0.kids, x.2.ok x.1.1 x.1.2 w
def Fj (ty : TypeId) (c0 : Cfg) (z : Nat) (w0 : World) (l : List (Perm × Perm)) (w : World) : Prop := ∃ w1, Fz ty c0 z w0 w1 /\ Oks c0 l w1 /\ Rely ty (joined c0 l) w1 w /\ Snug (joined c0 l) w
theorem fj_rely {l : List (Perm × Perm)} {w w₁ : World} (h : Fj L.tWg c0 z w0 l w) (r : Rely L.tWg (joined c0 l) w w₁) : Fj L.tWg c0 z w0 l w₁ :=
 let ⟨w1, h1, h2, h3, h4⟩ := h; ⟨w1, h1, h2, h3.trans L.tWg r, h4.rely r⟩
def WaitK (L : WgLink) (P : Program) (FinN : Perm -> Perm -> Goroutine -> World -> Prop) (c0 : Cfg) (z : Nat) (w0 : World) (b₀ : Frame) (a₀ : Act) (ops₀ : Array Oper) (i₀ : Nat) (rest₀ : List Nat) (k₀ : List Item) (cs : List Frame) : Prop :=
 ∀ l w, Fj L.tWg c0 z w0 l w -> ScS L.tWg P FinN .work (joined c0 l) (G (b₀.at (a₀.put ((ops₀[i₀]?).bind (·.dst)) (.tuple #[])) (.inRegion ops₀ rest₀ :: k₀)) cs) w
set_option maxRecDepth 100000 in
set_option maxHeartbeats 8000000 in
theorem waitLoop (H : WgLib P L) (hz : c0.cur = some z) (hS : ∀ l w, Fz L.tWg c0 z w0 w -> Oks c0 l w -> Snug (joined c0 l) w) (K : WaitK L P FinN c0 z w0 b₀ a₀ ops₀ i₀ rest₀ k₀ cs) :
   ∀ (u : Nat), u < 2147483648 -> ∀ (T : Array Value) (w : World), T.size = 84 -> T[0]? = some (.pointer (some ⟨z, 0, none⟩)) -> Fz L.tWg c0 z w0 w ->
     ScS L.tWg P FinN .work (cf c0 1 false u) (G ((base L.wait).at ⟨T, []⟩ [.code (L7 L), .inLoop (L7 L), .inBlock 0]) (b₀.at a₀ (.inRegion ops₀ (i₀ :: rest₀) :: k₀) :: cs)) w := by
 lib_facts
 intro u
 induction u using Nat.strongRecOn with
 | _ u ih =>
 intro hu T w hT84 t0 hF
 obtain ⟨v0, v1, v2, v3, v4, v5, v6, v7, v8, v9, v10, v11, v12, v13, v14, v15, v16, v17, v18, v19, v20, v21, v22, v23, v24, v25, v26, v27, v28, v29, v30, v31, v32, v33, v34, v35, v36, v37, v38, v39, v40, v41, v42, v43, v44, v45, v46, v47, v48, v49, v50, v51, v52, v53, v54, v55, v56, v57, v58, v59, v60, v61, v62, v63, v64, v65, v66, v67, v68, v69, v70, v71, v72, v73, v74, v75, v76, v77, v78, v79, v80, v81, v82, v83, rfl⟩ := array84 T hT84
 simp only [List.getElem?_toArray, List.getElem?_cons_zero, Option.some.injEq] at t0
 subst t0
 simp only [L7, body_wait, waitFn, Option.getD_some]
 refine goes_run 40 (.inl rfl) rfl hF.2.2.cf ?_
 u_c stepG_block (fz_rely hz) hF
 u_c stepG_seq (fz_rely hz) hF
 u_reg (fz_rely hz) hF
 u_op (fz_rely hz) hF
 u_op (fz_rely hz) hF
 u_op (fz_rely hz) hF
 u_call H.f_uLoad (nm_uLoad L) uLoadFn (fz_rely hz) hF
 u_c stepG_seq (fz_rely hz) hF
 u_reg (fz_rely hz) hF
 u_op (fz_rely hz) hF
 u_c stepG_region_end (fz_rely hz) hF
 u_c stepG_seq (fz_rely hz) hF
 u_reg (fz_rely hz) hF
 u_op (fz_rely hz) hF
 u_op (fz_rely hz) hF
 u_op (fz_rely hz) hF
 refine Goes.stop (fun w₁ h₁ => ?_)
 replace hF := (fz_rely hz) hF h₁
 clear h₁
 refine ScS.wait rfl rfl rfl (Nat.zero_lt_one) hz (fun w₁ h₁ v hv hw => ?_)
 replace hF := (fz_rely hz) hF h₁
 clear h₁
 rcases Nat.eq_zero_or_pos v with rfl | hvp
 · -- the load reads 0
   replace hw : WgAt L.tWg z w₁ 0 0 := by simpa using hw
   refine ⟨_, stepG_load_atomic (v := 0) rfl rfl (by k_ne) rfl H.f_loadU64 (x_loadU64_n L) (x_loadU64_b L) (x_loadU64_x L) .u64 (x_loadU64_f L) rfl hw.cellSt, ?_⟩
   clear hw
   walk_nrm
   show ScS L.tWg P FinN .awake (cf c0 1 false 0) _ _
   refine goes_run 50 (.inl rfl) rfl hF.2.2.cf ?_
   u_op (fz_rely hz) hF
   u_c stepG_region_end (fz_rely hz) hF
   u_c stepG_ret' (fz_rely hz) hF
   u_leave1 H.f_uLoad (fz_rely hz) hF
   u_op (fz_rely hz) hF
   u_c stepG_region_end (fz_rely hz) hF
   u_c stepG_seq (fz_rely hz) hF
   u_reg (fz_rely hz) hF
   u_op (fz_rely hz) hF
   u_op (fz_rely hz) hF
   u_op (fz_rely hz) hF
   u_op (fz_rely hz) hF
   u_c stepG_region_end (fz_rely hz) hF
   u_c stepG_seq (fz_rely hz) hF
   u_reg (fz_rely hz) hF
   u_op (fz_rely hz) hF
   u_op (fz_rely hz) hF
   u_op (fz_rely hz) hF
   u_op (fz_rely hz) hF
   u_c stepG_region_end (fz_rely hz) hF
   u_c stepG_seq (fz_rely hz) hF
   u_c stepG_seq (fz_rely hz) hF
   u_reg (fz_rely hz) hF
   u_op (fz_rely hz) hF
   u_op (fz_rely hz) hF
   u_c stepG_region_end (fz_rely hz) hF
   u_cond true (fz_rely hz) hF
   u_c stepG_seq (fz_rely hz) hF
   u_cond true (fz_rely hz) hF
   u_c stepG_seq (fz_rely hz) hF
   u_reg (fz_rely hz) hF
   refine Goes.stop (fun w₁ h₁ => ?_)
   replace hF := (fz_rely hz) hF h₁
   clear h₁
   refine ScS.mark rfl (.inr rfl) rfl rfl hF.2.2.cf (fun w₁ h₁ => ⟨_, stepG_mark0 .enable (by simp) rfl rfl (by k_ne) rfl H.f_enable (x_enable_n L) (x_enable_b L) (x_enable_x L) (x_enable_f L), ?_⟩)
   replace hF := (fz_rely hz) hF h₁
   clear h₁
   walk_nrm
   show ScS L.tWg P FinN .awake (cf c0 0 false 0) _ _
   refine goes_run 20 (.inl rfl) rfl hF.2.2.cf ?_
   u_c stepG_region_end (fz_rely hz) hF
   u_reg (fz_rely hz) hF
   u_op (fz_rely hz) hF
   u_conv H.underlying_tWgP H.room_tWg (WgLive.cell0 hF.2.1).choose_spec (fz_rely hz) hF
   refine Goes.stop (fun w₁ h₁ => ?_)
   replace hF := (fz_rely hz) hF h₁
   clear h₁
   refine ScS.acquired rfl rfl rfl hz (fun w₁ h₁ => ⟨_, stepG_markAt .acquire (by simp) rfl rfl (by k_ne) rfl H.f_acquire (x_acquire_n L) (x_acquire_b L) (x_acquire_x L) (x_acquire_f L) (by simp [Act.eval, stA]), fun l hl1 hl2 => ?_⟩)
   replace hF := (fz_rely hz) hF h₁
   clear h₁
   replace hF : Fj L.tWg c0 z w0 l w₁ := ⟨w₁, hF, ⟨hl1, hl2⟩, .refl L.tWg _ _, hS l w₁ hF ⟨hl1, hl2⟩⟩
   walk_nrm
   show ScS L.tWg P FinN .work (joined c0 l) _ _
   refine goes_run 30 (.inl rfl) rfl hF.choose_spec.2.2.2 ?_
   u_c stepG_region_end fj_rely hF
   u_c stepG_seq fj_rely hF
   u_c stepG_seq fj_rely hF
   u_reg fj_rely hF
   u_op fj_rely hF
   u_op fj_rely hF
   u_op fj_rely hF
   u_op fj_rely hF
   u_op fj_rely hF
   u_op fj_rely hF
   u_op fj_rely hF
   u_op fj_rely hF
   u_skip fj_rely hF
   u_skip fj_rely hF
   u_op fj_rely hF
   u_c stepG_region_end fj_rely hF
   u_cond false fj_rely hF
   u_c stepG_skip fj_rely hF
   u_c stepG_ret' fj_rely hF
   u_leave0 H.f_wait fj_rely hF
   refine Goes.stop (fun w₁ h₁ => ?_)
   replace hF := fj_rely hF h₁
   clear h₁
   exact K l _ hF
 · -- the load reads v * 2^32, v > 0
   replace hv : v <= u := hv
   have hv2 : v < 2147483648 := Nat.lt_of_le_of_lt hv hu
   obtain ⟨S, hS2⟩ : ∃ S : Int, (v : Int) * KK = S := ⟨_, rfl⟩
   have a1 : S / 4294967296 = (v : Int) := by rw [<- hS2]; simp only [KK]; omega
   have b1 : bits .and .u64 S 2147483648 = 0 := by rw [<- hS2]; have := st_flag v 0 (by omega) (by omega); simpa [KK] using this
   have b2 : bits .and .u64 S 2147483647 = 0 := by rw [<- hS2]; have := st_waiters v 0 (by omega) (by omega); simpa [KK] using this
   have c1 : IntKind.i32.wrap (v : Int) = (v : Int) := by rw [IntKind.wrap_i32]; omega
   have w1 : IntKind.u64.wrap (S + 1) = S + 1 := by rw [IntKind.wrap_u64, <- hS2]; simp only [KK]; omega
   have q3 : decide ((v : Int) < 0) = false := decide_eq_false (by omega)
   have q4 : decide (0 < (v : Int)) = true := decide_eq_true (by omega)
   have q5 : ((v : Int) == 0) = false := by simp; omega
   have q6 : decide ((v : Int) = 0) = false := decide_eq_false (by omega)
   rw [hS2] at hw
   refine ⟨_, stepG_load_atomic (v := S) rfl rfl (by k_ne) rfl H.f_loadU64 (x_loadU64_n L) (x_loadU64_b L) (x_loadU64_x L) .u64 (x_loadU64_f L) rfl hw.cellSt, ?_⟩
   clear hw
   rw [if_neg (by omega)]
   walk_nrm
   show ScS L.tWg P FinN (.cas v) (cf c0 1 false v) _ _
   refine goes_run 60 (.inl rfl) rfl hF.2.2.cf ?_
   u_op (fz_rely hz) hF
   u_c stepG_region_end (fz_rely hz) hF
   u_c stepG_ret' (fz_rely hz) hF
   u_leave1 H.f_uLoad (fz_rely hz) hF
   u_op (fz_rely hz) hF
   u_c stepG_region_end (fz_rely hz) hF
   u_c stepG_seq (fz_rely hz) hF
   u_reg (fz_rely hz) hF
   u_op (fz_rely hz) hF
   u_op (fz_rely hz) hF
   u_op (fz_rely hz) hF
   u_op (fz_rely hz) hF
   u_c stepG_region_end (fz_rely hz) hF
   u_c stepG_seq (fz_rely hz) hF
   u_reg (fz_rely hz) hF
   u_op (fz_rely hz) hF
   u_op (fz_rely hz) hF
   u_op (fz_rely hz) hF
   u_op (fz_rely hz) hF
   u_c stepG_region_end (fz_rely hz) hF
   u_c stepG_seq (fz_rely hz) hF
   u_c stepG_seq (fz_rely hz) hF
   u_reg (fz_rely hz) hF
   u_op (fz_rely hz) hF
   u_op (fz_rely hz) hF
   u_c stepG_region_end (fz_rely hz) hF
   u_cnd false (fz_rely hz) hF
   u_c stepG_skip (fz_rely hz) hF
   u_c stepG_seq (fz_rely hz) hF
   u_reg (fz_rely hz) hF
   u_op (fz_rely hz) hF
   u_op (fz_rely hz) hF
   u_op (fz_rely hz) hF
   u_op (fz_rely hz) hF
   u_op (fz_rely hz) hF
   u_op (fz_rely hz) hF
   u_call H.f_uCas (nm_uCas L) uCasFn (fz_rely hz) hF
   u_c stepG_seq (fz_rely hz) hF
   u_reg (fz_rely hz) hF
   u_op (fz_rely hz) hF
   u_c stepG_region_end (fz_rely hz) hF
   u_c stepG_seq (fz_rely hz) hF
   u_reg (fz_rely hz) hF
   u_op (fz_rely hz) hF
   u_op (fz_rely hz) hF
   u_op (fz_rely hz) hF
   u_op (fz_rely hz) hF
   u_op (fz_rely hz) hF
   refine Goes.stop (fun w₁ h₁ => ?_)
   replace hF := (fz_rely hz) hF h₁
   clear h₁
   refine ScS.cas rfl rfl (Nat.zero_lt_one) hz (fun w₁ h₁ v2 hv3 hw => ?_)
   replace hF := (fz_rely hz) hF h₁
   clear h₁
   refine ⟨fun e => ?_, fun e => ?_⟩
   · subst e
     rw [hS2] at hw ⊢
     refine ⟨_, (stepG_cas_hit (v := S) (n := S + 1) rfl rfl (by k_ne) rfl H.f_casU64 (x_casU64_n L) (x_casU64_b L) (x_casU64_x L) .u64 (x_casU64_f L) rfl rfl rfl hw.cellSt (hw.thaw 0)).trans (by rfl), ?_⟩
     replace hF := fz_st (v := S + 1) hz hF hw
     clear hw
     walk_nrm
     refine goes_run 70 (.inl rfl) rfl hF.2.2.cf ?_
     u_op (fz_rely hz) hF
     u_c stepG_region_end (fz_rely hz) hF
     u_c stepG_ret' (fz_rely hz) hF
     u_leave1 H.f_uCas (fz_rely hz) hF
     u_c stepG_region_end (fz_rely hz) hF
     u_cond true (fz_rely hz) hF
     u_c stepG_seq (fz_rely hz) hF
     u_c stepG_seq (fz_rely hz) hF
     u_reg (fz_rely hz) hF
     u_op (fz_rely hz) hF
     u_op (fz_rely hz) hF
     u_op (fz_rely hz) hF
     u_op (fz_rely hz) hF
     u_c stepG_region_end (fz_rely hz) hF
     u_cond true (fz_rely hz) hF
     u_reg (fz_rely hz) hF
     u_op (fz_rely hz) hF
     u_op (fz_rely hz) hF
     u_op (fz_rely hz) hF
     u_conv H.underlying_tPU32 H.room_tU32 (WgLive.cell1 hF.2.1).choose_spec (fz_rely hz) hF
     refine Goes.stop (fun w₁ h₁ => ?_)
     replace hF := (fz_rely hz) hF h₁
     clear h₁
     refine ScS.said (i := 1) rfl (.inr rfl) hz rfl rfl hF.2.2.cf (fun w₁ h₁ => ⟨_, stepG_markAt .write (by simp) rfl rfl (by k_ne) rfl H.f_raceWrite (x_raceWrite_n L) (x_raceWrite_b L) (x_raceWrite_x L) (x_raceWrite_f L) (ad := ⟨z, 1, none⟩) (by simp [Act.eval]), ?_⟩)
     replace hF := (fz_rely hz) hF h₁
     clear h₁
     walk_nrm
     refine goes_run 60 (.inl rfl) rfl hF.2.2.cf ?_
     u_c stepG_region_end (fz_rely hz) hF
     u_c stepG_seq (fz_rely hz) hF
     u_reg (fz_rely hz) hF
     u_op (fz_rely hz) hF
     u_c stepG_region_end (fz_rely hz) hF
     u_c stepG_seq (fz_rely hz) hF
     u_c stepG_seq (fz_rely hz) hF
     u_reg (fz_rely hz) hF
     u_op (fz_rely hz) hF
     u_op (fz_rely hz) hF
     u_op (fz_rely hz) hF
     u_op (fz_rely hz) hF
     u_skip (fz_rely hz) hF
     u_op (fz_rely hz) hF
     u_c stepG_region_end (fz_rely hz) hF
     u_cond false (fz_rely hz) hF
     u_c stepG_skip (fz_rely hz) hF
     u_c stepG_seq (fz_rely hz) hF
     u_reg (fz_rely hz) hF
     u_op (fz_rely hz) hF
     u_op (fz_rely hz) hF
     u_op (fz_rely hz) hF
     u_op (fz_rely hz) hF
     refine Goes.stop (fun w₁ h₁ => ?_)
     replace hF := (fz_rely hz) hF h₁
     clear h₁
     refine ScS.reg rfl rfl hz (fun w₁ h₁ => ?_)
     replace hF := (fz_rely hz) hF h₁
     clear h₁
     refine ⟨fun ⟨st, hw⟩ => stepG_semacquire_wait rfl rfl rfl H.f_semacquire (x_semacquire_n L) (x_semacquire_b L) (x_semacquire_x L) (x_semacquire_f L) (by simp [Act.eval, smA]) hw.cellSm, fun hf => ?_⟩
     refine ⟨_, (stepG_semacquire (n := 1) rfl rfl (by k_ne) rfl H.f_semacquire (x_semacquire_n L) (x_semacquire_b L) (x_semacquire_x L) (x_semacquire_f L) (by simp [Act.eval, smA]) hf.cellSm (by k_ne) (hf.thaw 1)).trans (by rfl), ?_⟩
     replace hF := fz_sm (v := 0) hz hF hf
     clear hf
     walk_nrm
     refine goes_run 30 (.inl rfl) rfl hF.2.2.cf ?_
     u_c stepG_region_end (fz_rely hz) hF
     u_c stepG_seq (fz_rely hz) hF
     u_reg (fz_rely hz) hF
     u_op (fz_rely hz) hF
     u_op (fz_rely hz) hF
     u_op (fz_rely hz) hF
     u_call H.f_uLoad (nm_uLoad L) uLoadFn (fz_rely hz) hF
     u_c stepG_seq (fz_rely hz) hF
     u_reg (fz_rely hz) hF
     u_op (fz_rely hz) hF
     u_c stepG_region_end (fz_rely hz) hF
     u_c stepG_seq (fz_rely hz) hF
     u_reg (fz_rely hz) hF
     u_op (fz_rely hz) hF
     u_op (fz_rely hz) hF
     u_op (fz_rely hz) hF
     refine Goes.stop (fun w₁ h₁ => ?_)
     replace hF := (fz_rely hz) hF h₁
     clear h₁
     refine ScS.awake rfl rfl (Nat.zero_lt_one) hz (fun w₁ h₁ hw => ?_)
     replace hF := (fz_rely hz) hF h₁
     clear h₁
     refine ⟨_, stepG_load_atomic (v := 0) rfl rfl (by k_ne) rfl H.f_loadU64 (x_loadU64_n L) (x_loadU64_b L) (x_loadU64_x L) .u64 (x_loadU64_f L) rfl hw.cellSt, ?_⟩
     clear hw
     walk_nrm
     refine goes_run 30 (.inl rfl) rfl hF.2.2.cf ?_
     u_op (fz_rely hz) hF
     u_c stepG_region_end (fz_rely hz) hF
     u_c stepG_ret' (fz_rely hz) hF
     u_leave1 H.f_uLoad (fz_rely hz) hF
     u_op (fz_rely hz) hF
     u_op (fz_rely hz) hF
     u_c stepG_region_end (fz_rely hz) hF
     u_c stepG_seq (fz_rely hz) hF
     u_cond true (fz_rely hz) hF
     u_c stepG_seq (fz_rely hz) hF
     u_reg (fz_rely hz) hF
     refine Goes.stop (fun w₁ h₁ => ?_)
     replace hF := (fz_rely hz) hF h₁
     clear h₁
     refine ScS.mark rfl (.inr rfl) rfl rfl hF.2.2.cf (fun w₁ h₁ => ⟨_, stepG_mark0 .enable (by simp) rfl rfl (by k_ne) rfl H.f_enable (x_enable_n L) (x_enable_b L) (x_enable_x L) (x_enable_f L), ?_⟩)
     replace hF := (fz_rely hz) hF h₁
     clear h₁
     walk_nrm
     show ScS L.tWg P FinN .awake (cf c0 0 false v2) _ _
     refine goes_run 20 (.inl rfl) rfl hF.2.2.cf ?_
     u_c stepG_region_end (fz_rely hz) hF
     u_reg (fz_rely hz) hF
     u_op (fz_rely hz) hF
     u_conv H.underlying_tWgP H.room_tWg (WgLive.cell0 hF.2.1).choose_spec (fz_rely hz) hF
     refine Goes.stop (fun w₁ h₁ => ?_)
     replace hF := (fz_rely hz) hF h₁
     clear h₁
     refine ScS.acquired rfl rfl rfl hz (fun w₁ h₁ => ⟨_, stepG_markAt .acquire (by simp) rfl rfl (by k_ne) rfl H.f_acquire (x_acquire_n L) (x_acquire_b L) (x_acquire_x L) (x_acquire_f L) (by simp [Act.eval, stA]), fun l hl1 hl2 => ?_⟩)
     replace hF := (fz_rely hz) hF h₁
     clear h₁
     replace hF : Fj L.tWg c0 z w0 l w₁ := ⟨w₁, hF, ⟨hl1, hl2⟩, .refl L.tWg _ _, hS l w₁ hF ⟨hl1, hl2⟩⟩
     walk_nrm
     show ScS L.tWg P FinN .work (joined c0 l) _ _
     refine goes_run 30 (.inl rfl) rfl hF.choose_spec.2.2.2 ?_
     u_c stepG_region_end fj_rely hF
     u_c stepG_seq fj_rely hF
     u_c stepG_seq fj_rely hF
     u_reg fj_rely hF
     u_op fj_rely hF
     u_c stepG_region_end fj_rely hF
     u_cond false fj_rely hF
     u_c stepG_skip fj_rely hF
     u_c stepG_ret' fj_rely hF
     u_leave0 H.f_wait fj_rely hF
     refine Goes.stop (fun w₁ h₁ => ?_)
     replace hF := fj_rely hF h₁
     clear h₁
     exact K l _ hF
   · refine ⟨_, stepG_cas_miss (v := (v2 : Int) * KK) (old := S) (n := S + 1) rfl rfl (by k_ne) rfl H.f_casU64 (x_casU64_n L) (x_casU64_b L) (x_casU64_x L) .u64 (x_casU64_f L) rfl rfl rfl hw.cellSt (hw.thaw 0) (by rw [<- hS2]; simp only [KK]; omega), ?_⟩
     clear hw
     walk_nrm
     show ScS L.tWg P FinN .work (cf c0 1 false (v - 1)) _ _
     refine goes_run 20 (.inl rfl) rfl hF.2.2.cf ?_
     u_op (fz_rely hz) hF
     u_c stepG_region_end (fz_rely hz) hF
     u_c stepG_ret' (fz_rely hz) hF
     u_leave1 H.f_uCas (fz_rely hz) hF
     u_c stepG_region_end (fz_rely hz) hF
     u_cond false (fz_rely hz) hF
     u_c stepG_skip (fz_rely hz) hF
     u_c stepG_inBlock (fz_rely hz) hF
     u_c stepG_inLoop (fz_rely hz) hF
     refine Goes.stop (fun w₁ h₁ => ?_)
     replace hF := (fz_rely hz) hF h₁
     clear h₁
     exact ih (v - 1) (by omega) (by omega) _ _ (by simp) (by simp) hF
set_option maxRecDepth 100000 in
set_option maxHeartbeats 8000000 in
theorem waitS (H : WgLib P L) (hz : c0.cur = some z) (hS : ∀ l w, Fz L.tWg c0 z w0 w -> Oks c0 l w -> Snug (joined c0 l) w) (K : WaitK L P FinN c0 z w0 b₀ a₀ ops₀ i₀ rest₀ k₀ cs) {u : Nat} (hu : u < 2147483648) (w : World) (hF : Fz L.tWg c0 z w0 w) :
   ScS L.tWg P FinN .work (cf c0 0 false u) (G ((base L.wait).at ⟨#[.pointer (some ⟨z, 0, none⟩), undef, undef, undef, undef, undef, undef, undef, undef, undef, undef, undef, undef, undef, undef, undef, undef, undef, undef, undef, undef, undef, undef, undef, undef, undef, undef, undef, undef, undef, undef, undef, undef, undef, undef, undef, undef, undef, undef, undef, undef, undef, undef, undef, undef, undef, undef, undef, undef, undef, undef, undef, undef, undef, undef, undef, undef, undef, undef, undef, undef, undef, undef, undef, undef, undef, undef, undef, undef, undef, undef, undef, undef, undef, undef, undef, undef, undef, undef, undef, undef, undef, undef, undef], []⟩ [.code (body_wait L)]) (b₀.at a₀ (.inRegion ops₀ (i₀ :: rest₀) :: k₀) :: cs)) w := by
 lib_facts
 simp only [body_wait, waitFn, Option.getD_some]
 refine goes_run 10 (.inl rfl) rfl hF.2.2.cf ?_
 u_c stepG_seq (fz_rely hz) hF
 u_cond true (fz_rely hz) hF
 u_reg (fz_rely hz) hF
 refine Goes.stop (fun w₁ h₁ => ?_)
 replace hF := (fz_rely hz) hF h₁
 clear h₁
 refine ScS.mark rfl (.inl rfl) rfl rfl hF.2.2.cf (fun w₁ h₁ => ⟨_, stepG_mark0 .disable (by simp) rfl rfl (by k_ne) rfl H.f_disable (x_disable_n L) (x_disable_b L) (x_disable_x L) (x_disable_f L), ?_⟩)
 replace hF := (fz_rely hz) hF h₁
 clear h₁ w
 walk_nrm
 show ScS L.tWg P FinN .work (cf c0 1 false u) _ _
 refine goes_run 5 (.inl rfl) rfl hF.2.2.cf ?_
 u_c stepG_region_end (fz_rely hz) hF
 u_c stepG_block (fz_rely hz) hF
 u_c stepG_loop (fz_rely hz) hF
 refine Goes.stop (fun w₁ h₁ => ?_)
 replace hF := (fz_rely hz) hF h₁
 clear h₁
 exact waitLoop H hz hS K u hu _ _ (by simp) (by simp) hF
end
abbrev cl (c0 : Cfg) (d : Nat) : Cfg := { c0 with deaf := d, own := fun _ => False, rd := fun _ => False }
def Fl (ty : TypeId) (c0 : Cfg) (z : Nat) (w : World) : Prop := True /\ WgLive ty z w /\ Snug (cl c0 0) w
section
variable {ty : TypeId} {P : Program} {FinN : Perm -> Perm -> Goroutine -> World -> Prop} {c0 : Cfg} {z : Nat} {vw : Vow} {w0 : World}
theorem fd_rely {d u : Nat} {p : Bool} (hu : c0.up = some (z, vw)) {w w₁ : World} (h : Fz ty c0 z w0 w) (r : Rely ty (cf c0 d p u) w w₁) : Fz ty c0 z w0 w₁ :=
 ⟨Rely.trans ty h.1 r.cf, r.cf.up z vw hu h.2.1, h.2.2.rely r.cf⟩
theorem fl_rely2 {d : Nat} (hu : c0.up = some (z, vw)) {w w₁ : World} (h : Fl ty c0 z w) (r : Rely ty (cl c0 d) w w₁) : Fl ty c0 z w₁ :=
 ⟨trivial, r.up z vw hu h.2.1, ⟨fun _ ha => (ha.elim id id).elim, fun z' hz => ⟨Nat.lt_of_lt_of_le (h.2.2.cur z' hz).1 r.size, (h.2.2.cur z' hz).2⟩, fun z' v' hz => ⟨Nat.lt_of_lt_of_le (h.2.2.up z' v' hz).1 r.size, (h.2.2.up z' v' hz).2⟩⟩⟩
theorem fl_snug {d : Nat} {w : World} (h : Fl ty c0 z w) : Snug (cl c0 d) w := ⟨fun _ ha => (ha.elim id id).elim, h.2.2.cur, h.2.2.up⟩
theorem fl_st {v : Int} {w : World} {st sm : Int} (h : Fl ty c0 z w) (hw : WgAt ty z w st sm) : Fl ty c0 z (w.setCell (stA z) (.int .u64 v)) :=
 have e : (w.setCell (stA z) (.int .u64 v)).heap.size = w.heap.size := by simp [World.setCell]
 ⟨trivial, ⟨_, _, hw.setSt v⟩, ⟨fun _ ha => (ha.elim id id).elim, fun z' hz => ⟨by rw [e]; exact (h.2.2.cur z' hz).1, (h.2.2.cur z' hz).2⟩, fun z' v' hz => ⟨by rw [e]; exact (h.2.2.up z' v' hz).1, (h.2.2.up z' v' hz).2⟩⟩⟩
theorem fz_fl {w : World} (h : Fz ty c0 z w0 w) : Fl ty c0 z w :=
 ⟨trivial, h.2.1, ⟨fun _ ha => (ha.elim id id).elim, fun z' hz => ⟨(h.2.2.cur z' hz).1, fun _ _ x => x.elim id id⟩, fun z' v' hz => ⟨(h.2.2.up z' v' hz).1, fun _ _ x => x.elim id id⟩⟩⟩
end
section
variable {L : WgLink} {P : Program} {FinN : Perm -> Perm -> Goroutine -> World -> Prop} {c0 : Cfg} {z u : Nat} {vw : Vow} {w0 : World} {c : Frame} {cs : List Frame} {qt : Nat}
set_option maxRecDepth 100000 in
set_option maxHeartbeats 16000000 in
theorem doneS (H : WgLib P L) (hu : c0.up = some (z, vw)) (hc : c0.cur = none) (hcm : c.mode = .returning) (hT : QuitsD P qt 0 (G c cs)) (hok : vw.ok c0.own c0.rd w0) (w : World) (hF : Fz L.tWg c0 z w0 w) :
   ScS L.tWg P FinN .work (cf c0 0 false u) (G ((baseD L.done).at ⟨#[.pointer (some ⟨z, 0, none⟩), undef, undef, undef], []⟩ [.code (body_done L)]) (c :: cs)) w := by
 lib_facts
 simp only [body_done, doneFn, Option.getD_some]
 refine goes_run 40 (.inl rfl) rfl hF.2.2.cf ?_
 u_reg (fd_rely hu) hF
 u_op (fd_rely hu) hF
 u_in (fd_rely hu) hF
 refine goes_call rfl rfl (by k_ne) rfl H.f_add (nm_add L) rfl ⟨by u_nil, ?_⟩
 walk_nrmf addFn
 u_c stepG_seq (fd_rely hu) hF
 u_cond true (fd_rely hu) hF
 u_c stepG_seq (fd_rely hu) hF
 u_c stepG_seq (fd_rely hu) hF
 u_reg (fd_rely hu) hF
 u_op (fd_rely hu) hF
 u_op (fd_rely hu) hF
 u_c stepG_region_end (fd_rely hu) hF
 u_cond true (fd_rely hu) hF
 u_reg (fd_rely hu) hF
 u_op (fd_rely hu) hF
 u_conv H.underlying_tWgP H.room_tWg (WgLive.cell0 hF.2.1).choose_spec (fd_rely hu) hF
 refine Goes.stop (fun w₁ h₁ => ?_)
 replace hF := (fd_rely hu) hF h₁
 clear h₁
 refine ScS.says rfl rfl hc rfl hu (fun w₁ h₁ => ?_)
 replace hF := (fd_rely hu) hF h₁
 clear h₁
 refine ⟨vw.keep (fun a ha => hF.1.same a ha) hF.1.size hok, _, stepG_markAt .releaseMerge (by simp) rfl rfl (by k_ne) rfl H.f_relMerge (x_relMerge_n L) (x_relMerge_b L) (x_relMerge_x L) (x_relMerge_f L) (by simp [Act.eval, stA]), ?_⟩
 replace hF := fz_fl hF
 walk_nrm
 show ScS L.tWg P FinN .rel (cl (cf c0 0 false u) 0) _ _
 obtain ⟨c1, ec1⟩ : ∃ c1, c1 = cf c0 0 false u := ⟨_, rfl⟩
 replace hu : c1.up = some (z, vw) := by rw [ec1]; exact hu
 replace hF : Fl L.tWg c1 z w₁ := by rw [ec1]; exact ⟨trivial, hF.2.1, ⟨hF.2.2.low, hF.2.2.cur, hF.2.2.up⟩⟩
 rw [<- ec1]
 clear ec1 hc hok
 refine goes_run (c := cl c1 0) 5 (.inr ⟨rfl, z, vw, hu⟩) rfl (fl_snug hF) ?_
 u_c stepG_region_end (fl_rely2 hu) hF
 u_c stepG_seq (fl_rely2 hu) hF
 u_reg (fl_rely2 hu) hF
 refine Goes.stop (fun w₁ h₁ => ?_)
 replace hF := (fl_rely2 hu) hF h₁
 clear h₁
 refine ScS.idle rfl ⟨z, vw, hu⟩ rfl rfl (fun w₁ h₁ => ⟨_, _, stepG_mark0 .disable (by simp) rfl rfl (by k_ne) rfl H.f_disable (x_disable_n L) (x_disable_b L) (x_disable_x L) (x_disable_f L), by simp [Event.mute], ?_⟩)
 replace hF := (fl_rely2 hu) hF h₁
 clear h₁
 walk_nrm
 show ScS L.tWg P FinN .rel (cl c1 1) _ _
 refine goes_run (c := cl c1 1) 60 (.inr ⟨rfl, z, vw, hu⟩) rfl (fl_snug hF) ?_
 u_c stepG_region_end (fl_rely2 hu) hF
 u_reg (fl_rely2 hu) hF
 u_defer (fl_rely2 hu) hF
 u_c stepG_region_end (fl_rely2 hu) hF
 u_c stepG_seq (fl_rely2 hu) hF
 u_reg (fl_rely2 hu) hF
 u_op (fl_rely2 hu) hF
 u_c stepG_region_end (fl_rely2 hu) hF
 u_c stepG_seq (fl_rely2 hu) hF
 u_c stepG_seq (fl_rely2 hu) hF
 u_reg (fl_rely2 hu) hF
 u_bub (fl_rely2 hu) hF
 u_c stepG_region_end (fl_rely2 hu) hF
 u_cond false (fl_rely2 hu) hF
 u_c stepG_skip (fl_rely2 hu) hF
 u_c stepG_seq (fl_rely2 hu) hF
 u_reg (fl_rely2 hu) hF
 u_op (fl_rely2 hu) hF
 u_op (fl_rely2 hu) hF
 u_op (fl_rely2 hu) hF
 u_op (fl_rely2 hu) hF
 u_op (fl_rely2 hu) hF
 u_op (fl_rely2 hu) hF
 u_call H.f_uAdd (nm_uAdd L) uAddFn (fl_rely2 hu) hF
 u_c stepG_seq (fl_rely2 hu) hF
 u_reg (fl_rely2 hu) hF
 u_op (fl_rely2 hu) hF
 u_c stepG_region_end (fl_rely2 hu) hF
 u_c stepG_seq (fl_rely2 hu) hF
 u_reg (fl_rely2 hu) hF
 u_op (fl_rely2 hu) hF
 u_op (fl_rely2 hu) hF
 u_op (fl_rely2 hu) hF
 u_op (fl_rely2 hu) hF
 refine Goes.stop (fun w₁ h₁ => ?_)
 replace hF := (fl_rely2 hu) hF h₁
 clear h₁
 refine ScS.done rfl rfl (Nat.zero_lt_one) hu (fun w₁ h₁ v wt hwt hv hw => ?_)
 replace hF := (fl_rely2 hu) hF h₁
 clear h₁
 have e0 : IntKind.u64.wrap (KK + 18446744069414584320) = 0 := by decide
 have e1 : IntKind.u64.wrap (KK + 1 + 18446744069414584320) = 1 := by decide
 rcases Nat.eq_zero_or_pos v with rfl | hvp <;> (obtain rfl | rfl : wt = 0 ∨ wt = 1 := by omega)
 · -- nought, nobody waits
   replace hw : WgAt L.tWg z w₁ KK 0 := by simpa using hw
   have zz : ((0 : Nat) : Int) * KK + ((0 : Nat) : Int) = 0 := by simp
   rw [zz]
   refine ⟨_, (stepG_add_atomic rfl rfl (by k_ne) rfl H.f_addU64 (x_addU64_n L) (x_addU64_b L) (x_addU64_x L) .u64 (x_addU64_f L) rfl rfl hw.cellSt (hw.thaw 0)).trans (by rw [e0]; rfl), fun hl => absurd hl.2 (by decide), fun _ => ⟨qt + 92, ?_⟩⟩
   clear hw hF hu
   walk_nrm
   q_val (.int .u64 0)
   q_c stepG_region_end
   q_c stepG_ret'
   q_leave1 H.f_uAdd
   q_val (.int .u64 0)
   q_c stepG_region_end
   q_c stepG_seq
   q_c stepG_seq
   q_reg
   q_val (.int .u64 0)
   q_val (.int .u64 0)
   q_val (.bool false)
   q_val (.bool false)
   q_skip
   q_skip
   q_val (.bool false)
   q_c stepG_region_end
   q_cond false
   q_c stepG_skip
   q_c stepG_seq
   q_reg
   q_val (.int .u64 0)
   q_val (.int .u64 0)
   q_val (.int .i32 0)
   q_val (.int .i32 0)
   q_c stepG_region_end
   q_c stepG_seq
   q_reg
   q_val (.int .u64 0)
   q_val (.int .u64 0)
   q_val (.int .u32 0)
   q_val (.int .u32 0)
   q_c stepG_region_end
   q_c stepG_seq
   q_c stepG_seq
   q_reg
   q_val (.bool true)
   q_val (.int .i64 (-1))
   q_val (.bool false)
   q_val (.bool false)
   q_val (.bool false)
   q_skip
   q_skip
   q_skip
   q_skip
   q_val (.bool false)
   q_c stepG_region_end
   q_cond false
   q_c stepG_skip
   q_c stepG_seq
   q_c stepG_seq
   q_reg
   q_val (.int .i32 0)
   q_val (.bool false)
   q_c stepG_region_end
   q_cond false
   q_c stepG_skip
   q_c stepG_seq
   q_c stepG_seq
   q_reg
   q_val (.int .u32 0)
   q_val (.bool false)
   q_val (.bool false)
   q_skip
   q_skip
   q_val (.bool false)
   q_val (.bool false)
   q_skip
   q_skip
   q_skip
   q_skip
   q_val (.bool false)
   q_c stepG_region_end
   q_cond false
   q_c stepG_skip
   q_c stepG_seq
   q_c stepG_seq
   q_reg
   q_val (.int .i32 0)
   q_val (.bool false)
   q_val (.bool false)
   q_val (.int .u32 0)
   q_val (.bool true)
   q_val (.bool true)
   q_c stepG_region_end
   q_cond true
   q_c stepG_ret'
   q_enable
   q_leave0 H.f_add
   q_c stepG_region_end
   q_c stepG_end
   exact QuitsD.leaveD rfl rfl H.f_done rfl hcm hT
 · -- nought, the starter waits
   replace hw : WgAt L.tWg z w₁ (KK + 1) 0 := by simpa using hw
   have zz : ((0 : Nat) : Int) * KK + ((1 : Nat) : Int) = 1 := by simp
   rw [zz]
   refine ⟨_, (stepG_add_atomic rfl rfl (by k_ne) rfl H.f_addU64 (x_addU64_n L) (x_addU64_b L) (x_addU64_x L) .u64 (x_addU64_f L) rfl rfl hw.cellSt (hw.thaw 0)).trans (by rw [e1]; rfl), fun _ => ?_, fun hl => absurd ⟨rfl, rfl⟩ hl⟩
   replace hF := fl_st (v := 1) hF hw
   clear hw
   walk_nrm
   refine goes_run (c := cl c1 1) 120 (.inr ⟨rfl, z, vw, hu⟩) rfl (fl_snug hF) ?_
   u_op (fl_rely2 hu) hF
   u_c stepG_region_end (fl_rely2 hu) hF
   u_c stepG_ret' (fl_rely2 hu) hF
   u_leave1 H.f_uAdd (fl_rely2 hu) hF
   u_op (fl_rely2 hu) hF
   u_c stepG_region_end (fl_rely2 hu) hF
   u_c stepG_seq (fl_rely2 hu) hF
   u_c stepG_seq (fl_rely2 hu) hF
   u_reg (fl_rely2 hu) hF
   u_op (fl_rely2 hu) hF
   u_op (fl_rely2 hu) hF
   u_op (fl_rely2 hu) hF
   u_op (fl_rely2 hu) hF
   u_skip (fl_rely2 hu) hF
   u_skip (fl_rely2 hu) hF
   u_op (fl_rely2 hu) hF
   u_c stepG_region_end (fl_rely2 hu) hF
   u_cond false (fl_rely2 hu) hF
   u_c stepG_skip (fl_rely2 hu) hF
   u_c stepG_seq (fl_rely2 hu) hF
   u_reg (fl_rely2 hu) hF
   u_op (fl_rely2 hu) hF
   u_op (fl_rely2 hu) hF
   u_op (fl_rely2 hu) hF
   u_op (fl_rely2 hu) hF
   u_c stepG_region_end (fl_rely2 hu) hF
   u_c stepG_seq (fl_rely2 hu) hF
   u_reg (fl_rely2 hu) hF
   u_op (fl_rely2 hu) hF
   u_op (fl_rely2 hu) hF
   u_op (fl_rely2 hu) hF
   u_op (fl_rely2 hu) hF
   u_c stepG_region_end (fl_rely2 hu) hF
   u_c stepG_seq (fl_rely2 hu) hF
   u_c stepG_seq (fl_rely2 hu) hF
   u_reg (fl_rely2 hu) hF
   u_op (fl_rely2 hu) hF
   u_op (fl_rely2 hu) hF
   u_op (fl_rely2 hu) hF
   u_op (fl_rely2 hu) hF
   u_op (fl_rely2 hu) hF
   u_skip (fl_rely2 hu) hF
   u_skip (fl_rely2 hu) hF
   u_skip (fl_rely2 hu) hF
   u_skip (fl_rely2 hu) hF
   u_op (fl_rely2 hu) hF
   u_c stepG_region_end (fl_rely2 hu) hF
   u_cond false (fl_rely2 hu) hF
   u_c stepG_skip (fl_rely2 hu) hF
   u_c stepG_seq (fl_rely2 hu) hF
   u_c stepG_seq (fl_rely2 hu) hF
   u_reg (fl_rely2 hu) hF
   u_op (fl_rely2 hu) hF
   u_op (fl_rely2 hu) hF
   u_c stepG_region_end (fl_rely2 hu) hF
   u_cond false (fl_rely2 hu) hF
   u_c stepG_skip (fl_rely2 hu) hF
   u_c stepG_seq (fl_rely2 hu) hF
   u_c stepG_seq (fl_rely2 hu) hF
   u_reg (fl_rely2 hu) hF
   u_op (fl_rely2 hu) hF
   u_op (fl_rely2 hu) hF
   u_op (fl_rely2 hu) hF
   u_op (fl_rely2 hu) hF
   u_op (fl_rely2 hu) hF
   u_op (fl_rely2 hu) hF
   u_op (fl_rely2 hu) hF
   u_skip (fl_rely2 hu) hF
   u_skip (fl_rely2 hu) hF
   u_skip (fl_rely2 hu) hF
   u_skip (fl_rely2 hu) hF
   u_op (fl_rely2 hu) hF
   u_c stepG_region_end (fl_rely2 hu) hF
   u_cond false (fl_rely2 hu) hF
   u_c stepG_skip (fl_rely2 hu) hF
   u_c stepG_seq (fl_rely2 hu) hF
   u_c stepG_seq (fl_rely2 hu) hF
   u_reg (fl_rely2 hu) hF
   u_op (fl_rely2 hu) hF
   u_op (fl_rely2 hu) hF
   u_op (fl_rely2 hu) hF
   u_op (fl_rely2 hu) hF
   u_op (fl_rely2 hu) hF
   u_op (fl_rely2 hu) hF
   u_c stepG_region_end (fl_rely2 hu) hF
   u_cond false (fl_rely2 hu) hF
   u_c stepG_skip (fl_rely2 hu) hF
   u_c stepG_seq (fl_rely2 hu) hF
   u_c stepG_seq (fl_rely2 hu) hF
   u_reg (fl_rely2 hu) hF
   u_op (fl_rely2 hu) hF
   u_op (fl_rely2 hu) hF
   u_op (fl_rely2 hu) hF
   u_call H.f_uLoad (nm_uLoad L) uLoadFn (fl_rely2 hu) hF
   u_c stepG_seq (fl_rely2 hu) hF
   u_reg (fl_rely2 hu) hF
   u_op (fl_rely2 hu) hF
   u_c stepG_region_end (fl_rely2 hu) hF
   u_c stepG_seq (fl_rely2 hu) hF
   u_reg (fl_rely2 hu) hF
   u_op (fl_rely2 hu) hF
   u_op (fl_rely2 hu) hF
   u_op (fl_rely2 hu) hF
   refine Goes.stop (fun w₁ h₁ => ?_)
   replace hF := (fl_rely2 hu) hF h₁
   clear h₁
   refine ScS.last4 rfl rfl (Nat.zero_lt_one) hu (fun w₁ h₁ hw => ?_)
   replace hF := (fl_rely2 hu) hF h₁
   clear h₁
   refine ⟨_, stepG_load_atomic rfl rfl (by k_ne) rfl H.f_loadU64 (x_loadU64_n L) (x_loadU64_b L) (x_loadU64_x L) .u64 (x_loadU64_f L) rfl hw.cellSt, ?_⟩
   clear hw
   walk_nrm
   refine goes_run (c := cl c1 1) 40 (.inr ⟨rfl, z, vw, hu⟩) rfl (fl_snug hF) ?_
   u_op (fl_rely2 hu) hF
   u_c stepG_region_end (fl_rely2 hu) hF
   u_c stepG_ret' (fl_rely2 hu) hF
   u_leave1 H.f_uLoad (fl_rely2 hu) hF
   u_op (fl_rely2 hu) hF
   u_op (fl_rely2 hu) hF
   u_c stepG_region_end (fl_rely2 hu) hF
   u_cond false (fl_rely2 hu) hF
   u_c stepG_skip (fl_rely2 hu) hF
   u_c stepG_seq (fl_rely2 hu) hF
   u_reg (fl_rely2 hu) hF
   u_op (fl_rely2 hu) hF
   u_op (fl_rely2 hu) hF
   u_op (fl_rely2 hu) hF
   u_call H.f_uStore (nm_uStore L) uStoreFn (fl_rely2 hu) hF
   u_reg (fl_rely2 hu) hF
   u_op (fl_rely2 hu) hF
   u_op (fl_rely2 hu) hF
   u_op (fl_rely2 hu) hF
   u_op (fl_rely2 hu) hF
   refine Goes.stop (fun w₁ h₁ => ?_)
   replace hF := (fl_rely2 hu) hF h₁
   clear h₁
   refine ScS.last3 rfl rfl (Nat.zero_lt_one) hu (fun w₁ h₁ hw => ?_)
   replace hF := (fl_rely2 hu) hF h₁
   clear h₁
   refine ⟨_, stepG_store_atomic rfl rfl (by k_ne) rfl H.f_storeU64 (x_storeU64_n L) (x_storeU64_b L) (x_storeU64_x L) (x_storeU64_f L) rfl rfl hw.cellSt (hw.thaw 0), ?_⟩
   replace hF := fl_st (v := 0) hF hw
   clear hw
   walk_nrm
   refine goes_run (c := cl c1 1) 50 (.inr ⟨rfl, z, vw, hu⟩) rfl (fl_snug hF) ?_
   u_c stepG_region_end (fl_rely2 hu) hF
   u_c stepG_end (fl_rely2 hu) hF
   u_leave0 H.f_uStore (fl_rely2 hu) hF
   u_c stepG_region_end (fl_rely2 hu) hF
   u_c stepG_seq (fl_rely2 hu) hF
   u_c stepG_seq (fl_rely2 hu) hF
   u_reg (fl_rely2 hu) hF
   u_op (fl_rely2 hu) hF
   u_c stepG_region_end (fl_rely2 hu) hF
   u_cond false (fl_rely2 hu) hF
   u_c stepG_skip (fl_rely2 hu) hF
   u_c stepG_block (fl_rely2 hu) hF
   u_c stepG_loop (fl_rely2 hu) hF
   u_c stepG_seq (fl_rely2 hu) hF
   u_c stepG_seq (fl_rely2 hu) hF
   u_reg (fl_rely2 hu) hF
   u_op (fl_rely2 hu) hF
   u_op (fl_rely2 hu) hF
   u_c stepG_region_end (fl_rely2 hu) hF
   u_cond true (fl_rely2 hu) hF
   u_c stepG_skip (fl_rely2 hu) hF
   u_c stepG_seq (fl_rely2 hu) hF
   u_c stepG_block (fl_rely2 hu) hF
   u_reg (fl_rely2 hu) hF
   u_op (fl_rely2 hu) hF
   u_op (fl_rely2 hu) hF
   u_op (fl_rely2 hu) hF
   refine Goes.stop (fun w₁ h₁ => ?_)
   replace hF := (fl_rely2 hu) hF h₁
   clear h₁
   refine ScS.last2 rfl rfl (mayWake_entry rfl rfl H.f_semrelease (x_semrelease_b L)) hu (fun w₁ h₁ hw => ?_)
   clear h₁ hF
   refine ⟨_, (stepG_semrelease rfl rfl (by k_ne) rfl H.f_semrelease (x_semrelease_n L) (x_semrelease_b L) (x_semrelease_x L) (x_semrelease_f L) (by simp [Act.eval, smA]) hw.cellSm (hw.thaw 1)).trans (by rfl), rfl, qt + 22, ?_⟩
   clear hw
   walk_nrm
   q_c stepG_region_end
   q_c stepG_inBlock
   q_reg
   q_val (.int .u32 1)
   q_val (.int .u32 0)
   q_val (.int .u32 0)
   q_c stepG_region_end
   q_c stepG_inLoop
   q_c stepG_seq
   q_c stepG_seq
   q_reg
   q_val (.int .u32 0)
   q_val (.bool false)
   q_c stepG_region_end
   q_cond false
   q_exit
   q_c stepG_end
   q_enable
   q_leave0 H.f_add
   q_c stepG_region_end
   q_c stepG_end
   exact QuitsD.leaveD rfl rfl H.f_done rfl hcm hT
 · -- more, nobody waits
   replace hw : WgAt L.tWg z w₁ (((v : Nat) + 1) * KK + 0) 0 := by simpa using hw
   have zz : ((v : Nat) : Int) * KK + ((0 : Nat) : Int) = (v : Int) * KK + 0 := by simp
   rw [zz]
   have eS : IntKind.u64.wrap (((v : Nat) + 1) * KK + 0 + 18446744069414584320) = (v : Int) * KK + 0 := by rw [IntKind.wrap_u64]; simp only [KK]; omega
   obtain ⟨S, hS⟩ : ∃ S : Int, S = (v : Int) * KK + 0 := ⟨_, rfl⟩
   rw [<- hS] at eS ⊢
   have a1 : S / 4294967296 = (v : Int) := by rw [hS]; simp only [KK]; omega
   have a2 : 0 <= S /\ S < 9223372036854775808 := by rw [hS]; simp only [KK]; omega
   have b1 : bits .and .u64 S 2147483648 = 0 := by rw [hS]; have := st_flag v 0 (by omega) (by omega); simpa [KK] using this
   have b2 : bits .and .u64 S 2147483647 = 0 := by rw [hS]; have := st_waiters v 0 (by omega) (by omega); simpa [KK] using this
   clear hS zz
   refine ⟨_, (stepG_add_atomic rfl rfl (by k_ne) rfl H.f_addU64 (x_addU64_n L) (x_addU64_b L) (x_addU64_x L) .u64 (x_addU64_f L) rfl rfl hw.cellSt (hw.thaw 0)).trans (by rw [eS]; rfl), fun hl => absurd hl.1 (by omega), fun _ => ⟨qt + 92, ?_⟩⟩
   clear hw hF hu
   walk_nrm
   q_vn (.int .u64 S)
   q_c stepG_region_end
   q_c stepG_ret'
   q_leave1 H.f_uAdd
   q_vn (.int .u64 S)
   q_c stepG_region_end
   q_c stepG_seq
   q_c stepG_seq
   q_reg
   q_vn (.int .u64 S)
   q_vn (.int .u64 0)
   q_vn (.bool false)
   q_vn (.bool false)
   q_skip
   q_skip
   q_vn (.bool false)
   q_c stepG_region_end
   q_cond false
   q_c stepG_skip
   q_c stepG_seq
   q_reg
   q_vn (.int .u64 S)
   q_vn (.int .u64 (v : Int))
   q_vn (.int .i32 (v : Int))
   q_vn (.int .i32 (v : Int))
   q_c stepG_region_end
   q_c stepG_seq
   q_reg
   q_vn (.int .u64 S)
   q_vn (.int .u64 0)
   q_vn (.int .u32 0)
   q_vn (.int .u32 0)
   q_c stepG_region_end
   q_c stepG_seq
   q_c stepG_seq
   q_reg
   q_vn (.bool true)
   q_vn (.int .i64 (-1))
   q_vn (.bool false)
   q_vn (.bool false)
   q_vn (.bool false)
   q_skip
   q_skip
   q_skip
   q_skip
   q_vn (.bool false)
   q_c stepG_region_end
   q_cond false
   q_c stepG_skip
   q_c stepG_seq
   q_c stepG_seq
   q_reg
   q_vn (.int .i32 (v : Int))
   q_vn (.bool false)
   q_c stepG_region_end
   q_cond false
   q_c stepG_skip
   q_c stepG_seq
   q_c stepG_seq
   q_reg
   q_vn (.int .u32 0)
   q_vn (.bool false)
   q_vn (.bool false)
   q_skip
   q_skip
   q_vn (.bool false)
   q_vn (.bool false)
   q_skip
   q_skip
   q_skip
   q_skip
   q_vn (.bool false)
   q_c stepG_region_end
   q_cond false
   q_c stepG_skip
   q_c stepG_seq
   q_c stepG_seq
   q_reg
   q_vn (.int .i32 (v : Int))
   q_vn (.bool true)
   q_vn (.bool true)
   q_skip
   q_skip
   q_vn (.bool true)
   q_c stepG_region_end
   q_cond true
   q_c stepG_ret'
   q_enable
   q_leave0 H.f_add
   q_c stepG_region_end
   q_c stepG_end
   exact QuitsD.leaveD rfl rfl H.f_done rfl hcm hT
 · -- more, the starter waits
   replace hw : WgAt L.tWg z w₁ (((v : Nat) + 1) * KK + 1) 0 := by simpa using hw
   have zz : ((v : Nat) : Int) * KK + ((1 : Nat) : Int) = (v : Int) * KK + 1 := by simp
   rw [zz]
   have eS : IntKind.u64.wrap (((v : Nat) + 1) * KK + 1 + 18446744069414584320) = (v : Int) * KK + 1 := by rw [IntKind.wrap_u64]; simp only [KK]; omega
   obtain ⟨S, hS⟩ : ∃ S : Int, S = (v : Int) * KK + 1 := ⟨_, rfl⟩
   rw [<- hS] at eS ⊢
   have a1 : S / 4294967296 = (v : Int) := by rw [hS]; simp only [KK]; omega
   have a2 : 0 <= S /\ S < 9223372036854775808 := by rw [hS]; simp only [KK]; omega
   have b1 : bits .and .u64 S 2147483648 = 0 := by rw [hS]; have := st_flag v 1 (by omega) (by omega); simpa [KK] using this
   have b2 : bits .and .u64 S 2147483647 = 1 := by rw [hS]; have := st_waiters v 1 (by omega) (by omega); simpa [KK] using this
   clear hS zz
   refine ⟨_, (stepG_add_atomic rfl rfl (by k_ne) rfl H.f_addU64 (x_addU64_n L) (x_addU64_b L) (x_addU64_x L) .u64 (x_addU64_f L) rfl rfl hw.cellSt (hw.thaw 0)).trans (by rw [eS]; rfl), fun hl => absurd hl.1 (by omega), fun _ => ⟨qt + 92, ?_⟩⟩
   clear hw hF hu
   walk_nrm
   q_vn (.int .u64 S)
   q_c stepG_region_end
   q_c stepG_ret'
   q_leave1 H.f_uAdd
   q_vn (.int .u64 S)
   q_c stepG_region_end
   q_c stepG_seq
   q_c stepG_seq
   q_reg
   q_vn (.int .u64 S)
   q_vn (.int .u64 0)
   q_vn (.bool false)
   q_vn (.bool false)
   q_skip
   q_skip
   q_vn (.bool false)
   q_c stepG_region_end
   q_cond false
   q_c stepG_skip
   q_c stepG_seq
   q_reg
   q_vn (.int .u64 S)
   q_vn (.int .u64 (v : Int))
   q_vn (.int .i32 (v : Int))
   q_vn (.int .i32 (v : Int))
   q_c stepG_region_end
   q_c stepG_seq
   q_reg
   q_vn (.int .u64 S)
   q_vn (.int .u64 1)
   q_vn (.int .u32 1)
   q_vn (.int .u32 1)
   q_c stepG_region_end
   q_c stepG_seq
   q_c stepG_seq
   q_reg
   q_vn (.bool true)
   q_vn (.int .i64 (-1))
   q_vn (.bool false)
   q_vn (.bool false)
   q_vn (.bool false)
   q_skip
   q_skip
   q_skip
   q_skip
   q_vn (.bool false)
   q_c stepG_region_end
   q_cond false
   q_c stepG_skip
   q_c stepG_seq
   q_c stepG_seq
   q_reg
   q_vn (.int .i32 (v : Int))
   q_vn (.bool false)
   q_c stepG_region_end
   q_cond false
   q_c stepG_skip
   q_c stepG_seq
   q_c stepG_seq
   q_reg
   q_vn (.int .u32 1)
   q_vn (.bool true)
   q_vn (.bool true)
   q_vn (.int .i64 (-1))
   q_vn (.bool false)
   q_vn (.bool false)
   q_vn (.bool false)
   q_skip
   q_skip
   q_skip
   q_skip
   q_vn (.bool false)
   q_c stepG_region_end
   q_cond false
   q_c stepG_skip
   q_c stepG_seq
   q_c stepG_seq
   q_reg
   q_vn (.int .i32 (v : Int))
   q_vn (.bool true)
   q_vn (.bool true)
   q_skip
   q_skip
   q_vn (.bool true)
   q_c stepG_region_end
   q_cond true
   q_c stepG_ret'
   q_enable
   q_leave0 H.f_add
   q_c stepG_region_end
   q_c stepG_end
   exact QuitsD.leaveD rfl rfl H.f_done rfl hcm hT
end
end Go.Nest
namespace Go.Nest
open Go Go.Conc Go.Eq
open Go.ConcR (KK WgAt stA smA wr mk DC0)
open Go.ConcN (WgLive)
section
variable {ty : TypeId} {P : Program} {FinN : Perm -> Perm -> Goroutine -> World -> Prop} {s : Stg} {c : Cfg} {w : World} {b : Frame} {a : Act} {k : List Item} {cs : List Frame} {ops : Array Oper} {i : Nat} {rest : List Nat} {o : Oper} {v : Value}
theorem ScS.ctl {g g' : Goroutine} (hs : s.early = true) (hr : g.status = .running) (ho : g.offers = none) (S : Snug c w) (h : ∀ w₁, stepG P c.main g w₁ = .go g' w₁ #[]) (K : ScS ty P FinN s c g' w) : ScS ty P FinN s c g w :=
 ScS.ord hs hr ho fun w₁ h₁ => ⟨g', w₁, #[], c, h w₁, ord_none (S.rely h₁), K.rely h₁⟩
theorem ScS.val (hs : s.early = true) (ho : ops[i]? = some o) (hw : Region.wanted o (yielded ops a.tmps) = true) (hk : b.kind ≠ .early)
   (h : ∀ w₁, Rely ty c w w₁ -> ∃ v w' c', (execOp a.eval o).run P w₁ = .ok (.value v) w' /\ (∀ es : Array Event, (∀ e, e ∈ es -> e ∈ (execOp a.eval o).events P w₁ #[]) -> Ord ty c c' w₁ w' es) /\ ScS ty P FinN s c' (G (b.at (a.put o.dst v) (.inRegion ops rest :: k)) cs) w') :
   ScS ty P FinN s c (G (b.at a (.inRegion ops (i :: rest) :: k)) cs) w := by
 refine ScS.ord hs rfl rfl fun w₁ h₁ => ?_
 obtain ⟨v, w', c', h1, h2, h3⟩ := h w₁ h₁
 exact ⟨_, w', _, c', stepG_value ho hw hk h1, h2 _ fun e he => mem_listed he, h3⟩
theorem ScS.skp (hs : s.early = true) (ho : ops[i]? = some o) (hw : Region.wanted o (yielded ops a.tmps) = true) (hk : b.kind ≠ .early)
   (h : ∀ w₁, Rely ty c w w₁ -> ∃ w' c', (execOp a.eval o).run P w₁ = .ok .skip w' /\ (∀ es : Array Event, (∀ e, e ∈ es -> e ∈ (execOp a.eval o).events P w₁ #[]) -> Ord ty c c' w₁ w' es) /\ ScS ty P FinN s c' (G (b.at (a.put o.dst undef) (.inRegion ops rest :: k)) cs) w') :
   ScS ty P FinN s c (G (b.at a (.inRegion ops (i :: rest) :: k)) cs) w := by
 refine ScS.ord hs rfl rfl fun w₁ h₁ => ?_
 obtain ⟨w', c', h1, h2, h3⟩ := h w₁ h₁
 exact ⟨_, w', _, c', stepG_none ho hw hk h1, h2 _ fun e he => mem_listed he, h3⟩
def Reads (c : Cfg) (e : Event) : Prop := ∃ x : Addr, e = ⟨.cell x, false, false⟩ /\ (c.own x ∨ c.rd x)
theorem ord_reads {es : Array Event} (S : Snug c w) (h : ∀ e ∈ es, Reads c e) : Ord ty c c w w es := by
 have hd : deafBehind c.deaf es = c.deaf := deafBehind_still (fun e he => by obtain ⟨x, rfl, -⟩ := h e he; simp) _
 have O := ord_still (ty := ty) (es := es) S (fun e he => by
   obtain ⟨x, rfl, hx⟩ := h e he
   have hlow := S.low x hx
   refine ⟨fun y hy => ?_, hlow, fun a h => by cases h⟩
   cases hy
   exact ⟨x, rfl, hlow, .inl ⟨rfl, hx.imp id fun h => .inl ⟨h, rfl⟩⟩⟩) (fun j e x h1 h2 => by
   obtain ⟨y, rfl, -⟩ := h e (Array.mem_of_getElem? h1)
   cases h2; simp)
 rwa [hd] at O
theorem ScS.read (hs : s.early = true) (S : Snug c w) (ho : ops[i]? = some o) (hw : Region.wanted o (yielded ops a.tmps) = true) (hk : b.kind ≠ .early)
   (h : ∀ w₁, Rely ty c w w₁ -> (execOp a.eval o).run P w₁ = .ok (.value v) w₁ /\ ∀ e ∈ (execOp a.eval o).events P w₁ #[], Reads c e)
   (K : ScS ty P FinN s c (G (b.at (a.put o.dst v) (.inRegion ops rest :: k)) cs) w) :
   ScS ty P FinN s c (G (b.at a (.inRegion ops (i :: rest) :: k)) cs) w :=
 ScS.val hs ho hw hk fun w₁ h₁ => ⟨v, w₁, c, (h w₁ h₁).1, fun _ hes => ord_reads (S.rely h₁) fun e he => (h w₁ h₁).2 e (hes e he), K.rely h₁⟩
theorem ord_write {x : Addr} {v : Value} {es : Array Event} (S : Snug c w) (hx : c.own x) (hc : ∃ u, w.cell? x = some u) (h : ∀ e ∈ es, e = ⟨.cell x, true, false⟩) : Ord ty c c w (w.setCell x v) es := by
 have hlow := S.low x (.inl hx)
 have hne : ∀ y, y ≠ x.block -> (w.setCell x v).heap[y]? = w.heap[y]? := fun y hy => modify_ne hy
 obtain ⟨u, hu⟩ := hc
 obtain ⟨cells, t, f, hh⟩ : ∃ cells t f, w.heap[x.block]? = some (.cells cells t f) := by
   unfold World.cell? at hu
   split at hu
   · exact ⟨_, _, _, by assumption⟩
   · cases hu
 have hsp : x.spot.isSome = false := by
   cases e : x.spot.isSome with
   | false => rfl
   | true => simp [World.cell?, hh, e] at hu
 have hh2 : (w.setCell x v).heap[x.block]? = some (.cells (cells.setIfInBounds x.off v) t f) := by
   simp [World.setCell, Array.getElem?_modify, hh, hsp]
 have hshape : ∀ y, (w.setCell x v).shape? y = w.shape? y := fun y => by
   by_cases e : y = x.block
   · subst e; simp [World.shape?, hh2, hh]
   · simp only [World.shape?, hne y e]
 have hd : deafBehind c.deaf es = c.deaf := deafBehind_still (fun e he => by rw [h e he]; simp) _
 refine ⟨by simp [World.setCell], fun y hy hn => hne y fun e => ?_, fun y hy hn => ?_, fun y s hs => by rw [hshape]; exact hs, rfl, rfl, rfl, fun e he => ?_, fun j e y h1 h2 h3 => ?_, rfl, hd.symm, fun y hy => ⟨.inl hy, by simpa [World.setCell] using S.low y (.inl hy)⟩, fun y hy => ⟨.inl hy, by simpa [World.setCell] using S.low y (.inr hy)⟩, rfl, rfl, rfl, rfl, .inl rfl⟩
 · subst e
   have : x = ⟨x.block, x.off, none⟩ := by
     obtain ⟨b1, o1, s1⟩ := x
     simp only [Option.isSome_eq_false_iff, Option.isNone_iff_eq_none] at hsp
     simp [hsp]
   exact hn x.off (this ▸ hx)
 · by_cases e : y.block = x.block
   · have hne2 : y.spot.isSome = false -> y.off ≠ x.off := fun hy2 e2 => hn (by
       have : y = x := by
         obtain ⟨b1, o1, s1⟩ := x
         obtain ⟨b2, o2, s2⟩ := y
         simp only [Option.isSome_eq_false_iff, Option.isNone_iff_eq_none] at hsp hy2
         simp_all
       rw [this]; exact hx)
     refine ⟨?_, ?_, by rw [hshape], fun hs => ?_, by simp only [frost, e, hh2, hh]⟩
     · simp only [World.cell?, e, hh2, hh]
       cases hy2 : y.spot.isSome with
       | true => rfl
       | false =>
         simp only [Bool.false_eq_true, if_false]
         rw [Array.getElem?_setIfInBounds, if_neg (Ne.symm (hne2 hy2))]
     · simp only [World.frozen?, e, hh2, hh]
     · rw [e] at hs; simp [World.shape?, hh] at hs
   · exact same_of_heap (hne _ e)
 · rw [h e he]
   have hlow2 : x.block < (w.setCell x v).heap.size := by simpa [World.setCell] using hlow
   refine ⟨fun y hy => ?_, hlow2, fun a h => by cases h⟩
   cases hy
   exact ⟨x, rfl, hlow2, .inl ⟨rfl, .inl hx⟩⟩
 · exfalso
   rw [h e (Array.mem_of_getElem? h1)] at h2
   cases h2; cases h3
theorem ScS.write {x : Addr} {v : Value} (hs : s.early = true) (S : Snug c w) (hx : c.own x) (ho : ops[i]? = some o) (hw : Region.wanted o (yielded ops a.tmps) = true) (hk : b.kind ≠ .early)
   (h : ∀ w₁, Rely ty c w w₁ -> (∃ u, w₁.cell? x = some u) /\ (execOp a.eval o).run P w₁ = .ok .skip (w₁.setCell x v) /\ (∀ e ∈ (execOp a.eval o).events P w₁ #[], e = ⟨.cell x, true, false⟩) /\ ScS ty P FinN s c (G (b.at (a.put o.dst undef) (.inRegion ops rest :: k)) cs) (w₁.setCell x v)) :
   ScS ty P FinN s c (G (b.at a (.inRegion ops (i :: rest) :: k)) cs) w :=
 ScS.skp hs ho hw hk fun w₁ h₁ => ⟨_, c, (h w₁ h₁).2.1, fun _ hes => ord_write (S.rely h₁) hx (h w₁ h₁).1 fun e he => (h w₁ h₁).2.2.1 e (hes e he), (h w₁ h₁).2.2.2⟩
abbrev fresh (w : World) (o : Obj) : World := w.alloc o
theorem fresh_old {w : World} {o : Obj} {y : Nat} (h : y < w.heap.size) : (fresh w o).heap[y]? = w.heap[y]? := by
 show (w.heap.push o)[y]? = _
 rw [Array.getElem?_push, if_neg (by omega)]
theorem fresh_new {w : World} {o : Obj} : (fresh w o).heap[w.heap.size]? = some o := by
 show (w.heap.push o)[w.heap.size]? = _
 rw [Array.getElem?_push, if_pos rfl]
theorem fresh_size {w : World} {o : Obj} : (fresh w o).heap.size = w.heap.size + 1 := by
 show (w.heap.push o).size = _
 rw [Array.size_push]
theorem ord_new {ob : Obj} {es : Array Event} (S : Snug c w) (h : ∀ e ∈ es, False) : Ord ty c (grown c w (fresh w ob)) w (fresh w ob) es /\ Snug (grown c w (fresh w ob)) (fresh w ob) := by
 have he : es = #[] := Array.eq_empty_iff_forall_not_mem.2 h
 subst he
 have hsz : w.heap.size <= (fresh w ob).heap.size := by rw [fresh_size]; omega
 have hg : ∀ z, z < w.heap.size -> (∀ x : Addr, x.block = z -> ¬ (c.own x ∨ c.rd x)) -> ∀ x : Addr, x.block = z -> ¬ ((grown c w (fresh w ob)).own x ∨ (grown c w (fresh w ob)).rd x) := by
   rintro z hz hn x hx ((h | h) | h)
   · exact hn x hx (.inl h)
   · omega
   · exact hn x hx (.inr h)
 refine ⟨⟨hsz, fun y hy _ => fresh_old hy, fun y hy _ => same_of_heap (fresh_old hy), fun y s hs => ?_, rfl, rfl, rfl, fun e he => by simp at he, fun j e x hj => by simp at hj, rfl, rfl, fun y hy => ⟨hy.imp id fun h => .inl h.1, ?_⟩, fun y hy => ⟨.inl hy, Nat.lt_of_lt_of_le (S.low y (.inr hy)) hsz⟩, rfl, rfl, rfl, rfl, .inl rfl⟩,
   ⟨fun y hy => ?_, fun z hz => ⟨Nat.lt_of_lt_of_le (S.cur z hz).1 hsz, hg z (S.cur z hz).1 (S.cur z hz).2⟩, fun z v hz => ⟨Nat.lt_of_lt_of_le (S.up z v hz).1 hsz, hg z (S.up z v hz).1 (S.up z v hz).2⟩⟩⟩
 · have hlt : y < w.heap.size := by
     rcases Nat.lt_or_ge y w.heap.size with h | h
     · exact h
     · simp [World.shape?, Array.getElem?_eq_none h] at hs
   simp only [World.shape?, fresh_old hlt]; exact hs
 · rcases hy with h | h
   · exact Nat.lt_of_lt_of_le (S.low y (.inl h)) hsz
   · exact h.2
 · rcases hy with (h | h) | h
   · exact Nat.lt_of_lt_of_le (S.low y (.inl h)) hsz
   · exact h.2
   · exact Nat.lt_of_lt_of_le (S.low y (.inr h)) hsz
theorem ScS.make {v : World -> Value} {ob : World -> Obj} (hs : s.early = true) (S : Snug c w) (ho : ops[i]? = some o) (hw : Region.wanted o (yielded ops a.tmps) = true) (hk : b.kind ≠ .early)
   (h : ∀ w₁, Rely ty c w w₁ -> (execOp a.eval o).run P w₁ = .ok (.value (v w₁)) (fresh w₁ (ob w₁)) /\ (∀ e ∈ (execOp a.eval o).events P w₁ #[], False) /\ (Snug (grown c w₁ (fresh w₁ (ob w₁))) (fresh w₁ (ob w₁)) -> ScS ty P FinN s (grown c w₁ (fresh w₁ (ob w₁))) (G (b.at (a.put o.dst (v w₁)) (.inRegion ops rest :: k)) cs) (fresh w₁ (ob w₁)))) :
   ScS ty P FinN s c (G (b.at a (.inRegion ops (i :: rest) :: k)) cs) w :=
 ScS.val hs ho hw hk fun w₁ h₁ => ⟨v w₁, _, _, (h w₁ h₁).1, fun _ hes => (ord_new (S.rely h₁) fun e he => (h w₁ h₁).2.1 e (hes e he)).1, (h w₁ h₁).2.2 (ord_new (ty := ty) (ob := ob w₁) (es := #[]) (S.rely h₁) fun e he => by simp at he).2⟩
theorem ScS.enter {f : FuncId} {fn : Func} {cd : Code} {args : Array Operand} {ats : Array TypeId} (hs : s.early = true) (S : Snug c w) (ho : ops[i]? = some o) (hw : Region.wanted o (yielded ops a.tmps) = true) (hk : b.kind ≠ .early)
   (hop : o.op = .call { callee := .value (.func f), args, argTypes := ats }) (hf : P.funcs[f]? = some fn) (hname : (fn.name == "runtime.NumGoroutine") = false) (hb : fn.body = some cd)
   (K : ScS ty P FinN s c (live (Frame.enter P f (args.map a.eval) .normal) (b.at a (.inRegion ops (i :: rest) :: k) :: cs)) w) :
   ScS ty P FinN s c (G (b.at a (.inRegion ops (i :: rest) :: k)) cs) w := by
 have hb' : fn.body.isNone = false := by rw [hb]; rfl
 refine ScS.ctl hs rfl rfl S (fun w₁ => ?_) K
 rw [stepG_enter ho hw hk (run_call_body hop hf hname hb')]
 have : listed P b.fn a o w₁ = #[] := by unfold listed; rw [events_call_body hop hf hname hb']; exact seen_none P _
 rw [this]
 rfl
theorem ready_spec {md : Region.Mode} {ops : Array Oper} {listed : Array Bool} {i : Nat} (h : i ∈ Region.ready md ops listed) : i < ops.size /\ listed.getD i true = false /\ ∃ o, ops[i]? = some o /\ ∀ e ∈ o.after, Region.binds md e = true -> listed.getD e.on false = true := by
 have h2 := mem_ready.1 h
 obtain ⟨h3, o, h4, h5⟩ := h2
 exact ⟨(Array.getElem?_eq_some_iff.1 h4).1, h3, o, h4, h5⟩
theorem ScS.drawn {id : Nat} {I : Array Bool -> Act -> Cfg -> World -> Prop} (hs : s.early = true) (hm : P.follows .mixedOrders = true) (S : Snug c w)
   (hI : ∀ w₁, Rely ty c w w₁ -> I (Array.replicate ops.size false) a c w₁)
   (hdraw : ∀ l a c w, I l a c w -> I l a c { w with drawn := w.drawn + 1 })
   (hend : ∀ l a c w, Region.ready .any ops l = [] -> I l a c w -> ScS ty P FinN s c (G (b.at a k) cs) w)
   (hsnug : ∀ l a c w, I l a c w -> Snug c w)
   (hstep : ∀ l a c w i, i ∈ Region.ready .any ops l -> I l a c w -> ∀ rest, (∀ a' c' w', I (l.setIfInBounds i true) a' c' w' -> ScS ty P FinN s c' (G (b.at a' (.inRegion ops rest :: k)) cs) w') -> ScS ty P FinN s c (G (b.at a (.inRegion ops (i :: rest) :: k)) cs) w) :
   ScS ty P FinN s c (G (b.at a (.code (.region id ops true) :: k)) cs) w := by
 have key : ∀ (fuel t : Nat) (l : Array Bool) (a : Act) (c : Cfg) (w : World), I l a c w -> (fuel = 0 -> Region.ready .any ops l = []) -> l.toList.countP (!·) <= fuel -> ScS ty P FinN s c (G (b.at a (.inRegion ops (Region.linearise.go .any ops fuel t l []) :: k)) cs) w := by
   intro fuel
   have hnilK : ∀ l a c w, Region.ready .any ops l = [] -> I l a c w -> ScS ty P FinN s c (G (b.at a (.inRegion ops [] :: k)) cs) w := fun l a c w h0 hI =>
     ScS.ctl hs rfl rfl (hsnug l a c w hI) (fun _ => stepG_region_end) (hend l a c w h0 hI)
   induction fuel with
   | zero =>
     intro t l a c w hI h0 _
     simp only [Region.linearise.go]
     simpa using hnilK l a c w (h0 rfl) hI
   | succ fuel ih =>
     intro t l a c w hI _ hcnt
     simp only [Region.linearise.go]
     change ScS ty P FinN s c (G (b.at a (.inRegion ops (match (Region.ready .any ops l)[t % (Region.ready .any ops l).length]? with
       | some i => Region.linearise.go .any ops fuel (t / (Region.ready .any ops l).length) (l.setIfInBounds i true) [i]
       | none => [].reverse) :: k)) cs) w
     cases hi : (Region.ready .any ops l)[t % (Region.ready .any ops l).length]? with
     | none =>
       have hnil : Region.ready .any ops l = [] := by
         cases hr : Region.ready .any ops l with
         | nil => rfl
         | cons x xs =>
           rw [hr] at hi
           have hlt : t % (x :: xs).length < (x :: xs).length := Nat.mod_lt _ (by simp)
           simp at hi
           simp at hlt
           omega
       simpa using hnilK l a c w hnil hI
     | some i =>
       simp only []
       rw [linearise_go_acc, List.reverse_singleton, List.singleton_append]
       have him := List.mem_of_getElem? hi
       obtain ⟨hlt, hfalse, -⟩ := ready_spec him
       refine hstep l a c w i him hI _ fun a' c' w' hI' => ?_
       have hil : i < l.size := by
         rcases Nat.lt_or_ge i l.size with h | h
         · exact h
         · simp [Array.getElem?_eq_none h] at hfalse
       have hget : l[i] = false := by simpa [Array.getD, hil] using hfalse
       have hc2 : (l.setIfInBounds i true).toList.countP (!·) + 1 <= l.toList.countP (!·) := by
         rw [Array.toList_setIfInBounds]
         have h1 := List.countP_set (p := fun x : Bool => !x) (l := l.toList) (i := i) (a := true) (by simpa using hil)
         have hpos : 0 < l.toList.countP (fun x => !x) := List.countP_pos_iff.2 ⟨false, by rw [<- hget]; simp, rfl⟩
         simp only [Array.getElem_toList, hget, Bool.not_false, Bool.not_true, if_true, Bool.false_eq_true, if_false] at h1
         rw [h1]
         omega
       refine ih _ (l.setIfInBounds i true) a' c' w' hI' (fun e => ?_) (by omega)
       subst e
       -- all have come up
       have hz : (l.setIfInBounds i true).toList.countP (!·) = 0 := by omega
       cases hr : Region.ready .any ops (l.setIfInBounds i true) with
       | nil => rfl
       | cons x xs =>
         exfalso
         have hx : x ∈ Region.ready .any ops (l.setIfInBounds i true) := by rw [hr]; exact List.mem_cons_self
         obtain ⟨-, hxf, -⟩ := ready_spec hx
         rw [List.countP_eq_zero] at hz
         have hxl : x < (l.setIfInBounds i true).size := by
           rcases Nat.lt_or_ge x (l.setIfInBounds i true).size with h | h
           · exact h
           · rw [Array.getD, dif_neg (by omega)] at hxf; cases hxf
         have hxg : (l.setIfInBounds i true)[x] = false := by
           rw [Array.getD, dif_pos hxl] at hxf; exact hxf
         exact hz false (Array.mem_toList_iff.2 (by rw [<- hxg]; exact Array.getElem_mem hxl)) rfl
 refine ScS.ord hs rfl rfl fun w₁ h₁ => ⟨_, _, #[], c, stepG_region_draw, ?_, ?_⟩
 · have S1 := S.rely h₁
   exact ⟨Nat.le_refl _, fun _ _ _ => rfl, fun _ _ _ => ⟨rfl, rfl, rfl, fun _ => rfl, rfl⟩, fun _ _ h => h, rfl, rfl, rfl, fun e he => by simp at he, fun j e x hj => by simp at hj, rfl, rfl, fun a ha => ⟨.inl ha, S1.low a (.inl ha)⟩, fun a ha => ⟨.inl ha, S1.low a (.inr ha)⟩, rfl, rfl, rfl, rfl, .inl rfl⟩
 · simp only [Region.schedule, hm, Bool.true_or, if_true]
   refine key ops.size _ _ a c _ (hdraw _ _ _ _ (hI w₁ h₁)) (fun e => ?_) ?_
   · cases hr : Region.ready .any ops (Array.replicate ops.size false) with
     | nil => rfl
     | cons x xs =>
       exfalso
       have hx : x ∈ Region.ready .any ops (Array.replicate ops.size false) := by rw [hr]; exact List.mem_cons_self
       have := (ready_spec hx).1
       omega
   · exact Nat.le_trans List.countP_le_length (by simp)
end
end Go.Nest
namespace Go.Nest
open Go Go.Conc Go.Eq
open Go.ConcN (WgLive)
inductive Tr where
 | empty
 | leaf (p v : ByteArray)
 | branch (p : ByteArray) (l r : Tr)
def ptr (b : Nat) : Option Addr := some ⟨b, 0, none⟩
def noText : ByteArray := { data := #[] }
def nodeCells (kind : Int) (p v : ByteArray) (l r : Option Addr) (d : Int) (s : Bool) : Array Value :=
 #[.int .i64 kind, .string p, .string v, .pointer l, .pointer r, .int .i64 d, .bool s]
section
variable (nt : TypeId) (dg : Int -> ByteArray -> ByteArray -> Int -> Int -> Int)
def Tr.dig : Tr -> Int
 | .empty => dg 2 noText noText 0 0
 | .leaf p v => dg 0 p v 0 0
 | .branch p l r => dg 1 p noText l.dig r.dig
def Tr.kind : Tr -> Int
 | .empty => 2
 | .leaf _ _ => 0
 | .branch _ _ _ => 1
def Tr.path : Tr -> ByteArray
 | .empty => noText
 | .leaf p _ => p
 | .branch p _ _ => p
def Tr.value : Tr -> ByteArray
 | .leaf _ v => v
 | _ => noText
def NodeAt (w : World) (b : Nat) (kind : Int) (p v : ByteArray) (l r : Option Addr) (d : Int) (s : Bool) : Prop := ∃ fr, w.heap[b]? = some (.cells (nodeCells kind p v l r d s) nt fr)
def Sd (R : Nat -> Prop) (w : World) : Tr -> Nat -> Prop
 | .branch p l r, b => R b /\ ∃ bl br, NodeAt nt w b 1 p noText (ptr bl) (ptr br) (Tr.dig dg (.branch p l r)) true /\ Sd R w l bl /\ Sd R w r br
 | t, b => R b /\ NodeAt nt w b t.kind t.path t.value none none (t.dig dg) true
def Nd (R : Nat -> Prop) (w : World) : Tr -> Nat -> Prop
 | .branch p l r, b => R b /\ ∃ bl br d s, NodeAt nt w b 1 p noText (ptr bl) (ptr br) d s /\ Nd R w l bl /\ Nd R w r br /\ (s = true -> d = Tr.dig dg (.branch p l r) /\ Sd nt dg R w l bl /\ Sd nt dg R w r br)
 | t, b => R b /\ ∃ d s, NodeAt nt w b t.kind t.path t.value none none d s /\ (s = true -> d = t.dig dg)
end
section
variable {nt : TypeId} {dg : Int -> ByteArray -> ByteArray -> Int -> Int -> Int} {R R' : Nat -> Prop} {w w' : World} {ty : TypeId}
theorem row_same {b : Nat} {cells : Array Value} {t : TypeId} {fr : Nat × Nat} (h : w.heap[b]? = some (.cells cells t fr)) (hs : ∀ a : Addr, a.block = b -> Same a w w') : ∃ fr', w'.heap[b]? = some (.cells cells t fr') := by
 have hS := hs ⟨b, 0, none⟩ rfl
 have h1 : w'.shape? b = some (t, cells.size) := by
   have := hS.shape
   simp only [World.shape?, h] at this ⊢
   exact this
 obtain ⟨c1, f1, e3⟩ : ∃ c1 f1, w'.heap[b]? = some (.cells c1 t f1) := by
   simp only [World.shape?] at h1
   cases hh : w'.heap[b]? with
   | none => rw [hh] at h1; simp at h1
   | some x =>
     rw [hh] at h1
     cases x <;> simp at h1
     obtain ⟨rfl, h2⟩ := h1
     exact ⟨_, _, rfl⟩
 have hc : c1 = cells := Array.ext_getElem? fun i => by
   have := (hs ⟨b, i, none⟩ rfl).cell
   simpa [World.cell?, e3, h] using this
 subst hc
 exact ⟨f1, e3⟩
theorem NodeAt.same {b : Nat} {kind : Int} {p v : ByteArray} {l r : Option Addr} {d : Int} {s : Bool} (h : NodeAt nt w b kind p v l r d s) (hs : ∀ a : Addr, a.block = b -> Same a w w') : NodeAt nt w' b kind p v l r d s :=
 let ⟨_, e⟩ := h; row_same e hs
theorem Sd.same (hs : ∀ a : Addr, R a.block -> Same a w w') : ∀ {t : Tr} {b : Nat}, Sd nt dg R w t b -> Sd nt dg R w' t b
 | .branch _ _ _, _, ⟨h1, bl, br, h2, h3, h4⟩ => ⟨h1, bl, br, h2.same fun a e => hs a (e ▸ h1), h3.same hs, h4.same hs⟩
 | .empty, _, ⟨h1, h2⟩ => ⟨h1, h2.same fun a e => hs a (e ▸ h1)⟩
 | .leaf _ _, _, ⟨h1, h2⟩ => ⟨h1, h2.same fun a e => hs a (e ▸ h1)⟩
theorem Nd.same (hs : ∀ a : Addr, R a.block -> Same a w w') : ∀ {t : Tr} {b : Nat}, Nd nt dg R w t b -> Nd nt dg R w' t b
 | .branch _ _ _, _, ⟨h1, bl, br, d, s, h2, h3, h4, h5⟩ => ⟨h1, bl, br, d, s, h2.same fun a e => hs a (e ▸ h1), h3.same hs, h4.same hs, fun x => ⟨(h5 x).1, (h5 x).2.1.same hs, (h5 x).2.2.same hs⟩⟩
 | .empty, _, ⟨h1, d, s, h2, h3⟩ => ⟨h1, d, s, h2.same fun a e => hs a (e ▸ h1), h3⟩
 | .leaf _ _, _, ⟨h1, d, s, h2, h3⟩ => ⟨h1, d, s, h2.same fun a e => hs a (e ▸ h1), h3⟩
theorem Sd.mono (hR : ∀ b, R b -> R' b) : ∀ {t : Tr} {b : Nat}, Sd nt dg R w t b -> Sd nt dg R' w t b
 | .branch _ _ _, _, ⟨h1, bl, br, h2, h3, h4⟩ => ⟨hR _ h1, bl, br, h2, h3.mono hR, h4.mono hR⟩
 | .empty, _, ⟨h1, h2⟩ => ⟨hR _ h1, h2⟩
 | .leaf _ _, _, ⟨h1, h2⟩ => ⟨hR _ h1, h2⟩
theorem Nd.mono (hR : ∀ b, R b -> R' b) : ∀ {t : Tr} {b : Nat}, Nd nt dg R w t b -> Nd nt dg R' w t b
 | .branch _ _ _, _, ⟨h1, bl, br, d, s, h2, h3, h4, h5⟩ => ⟨hR _ h1, bl, br, d, s, h2, h3.mono hR, h4.mono hR, fun x => ⟨(h5 x).1, (h5 x).2.1.mono hR, (h5 x).2.2.mono hR⟩⟩
 | .empty, _, ⟨h1, d, s, h2, h3⟩ => ⟨hR _ h1, d, s, h2, h3⟩
 | .leaf _ _, _, ⟨h1, d, s, h2, h3⟩ => ⟨hR _ h1, d, s, h2, h3⟩
theorem Nd.node : ∀ {t : Tr} {b : Nat}, Nd nt dg R w t b -> R b /\ ∃ l r d s, NodeAt nt w b t.kind t.path t.value l r d s /\ (s = true -> Sd nt dg R w t b) /\
   (∀ p tl tr, t = .branch p tl tr -> ∃ bl br, l = ptr bl /\ r = ptr br /\ Nd nt dg R w tl bl /\ Nd nt dg R w tr br) /\ (t.kind ≠ 1 -> l = none /\ r = none)
 | .branch p tl tr, b, ⟨h1, bl, br, d, s, h2, h3, h4, h5⟩ => ⟨h1, _, _, d, s, h2, fun e => by
     subst e
     obtain ⟨rfl, h6, h7⟩ := h5 rfl
     exact ⟨h1, bl, br, h2, h6, h7⟩, fun p' tl' tr' e => by cases e; exact ⟨bl, br, rfl, rfl, h3, h4⟩, fun h => absurd rfl h⟩
 | .empty, b, ⟨h1, d, s, h2, h3⟩ => ⟨h1, _, _, d, s, h2, fun e => by
     subst e
     have := h3 rfl
     subst this
     exact ⟨h1, h2⟩, fun _ _ _ e => (by cases e), fun _ => ⟨rfl, rfl⟩⟩
 | .leaf p v, b, ⟨h1, d, s, h2, h3⟩ => ⟨h1, _, _, d, s, h2, fun e => by
     subst e
     have := h3 rfl
     subst this
     exact ⟨h1, h2⟩, fun _ _ _ e => (by cases e), fun _ => ⟨rfl, rfl⟩⟩
def Rof (c : Cfg) (b : Nat) : Prop := ∀ a : Addr, a.block = b -> c.own a ∨ c.rd a
end
structure Ext (ty : TypeId) (c : Cfg) (w : World) (c' : Cfg) (w' : World) : Prop where
 cfg : c' = { c with own := c'.own, rd := c'.rd }
 own : ∀ a, c.own a -> c'.own a
 own' : ∀ a, c'.own a -> c.own a ∨ w.heap.size <= a.block
 rd : ∀ a, c.rd a -> c'.rd a
 rd' : ∀ a, c'.rd a -> c.rd a ∨ w.heap.size <= a.block
 rely : Rely ty c w w'
 snug : Snug c' w'
section
variable {ty : TypeId} {c c' c'' : Cfg} {w w' w'' : World}
theorem Ext.refl (S : Snug c w) : Ext ty c w c w := ⟨rfl, fun _ h => h, fun _ h => .inl h, fun _ h => h, fun _ h => .inl h, .refl ty c w, S⟩
theorem Ext.go (E : Ext ty c w c' w') (hr : Rely ty c' w' w'') : Ext ty c w c' w'' := by
 have e := E.cfg
 refine ⟨E.cfg, E.own, E.own', E.rd, E.rd', ⟨Nat.le_trans E.rely.size hr.size, fun a ha => (E.rely.same a ha).trans (hr.same a (ha.imp (E.own a) (E.rd a))), fun b s h => hr.shape b s (E.rely.shape b s h), fun z hz h => hr.cur z (by rw [e]; exact hz) (E.rely.cur z hz h), fun z v hz h => hr.up z v (by rw [e]; exact hz) (E.rely.up z v hz h), hr.os.trans E.rely.os, hr.tape.trans E.rely.tape, hr.output.trans E.rely.output⟩, E.snug.rely hr⟩
theorem Ext.rof (E : Ext ty c w c' w') : ∀ b, Rof c b -> Rof c' b := fun _ h a ha => (h a ha).imp (E.own a) (E.rd a)
theorem Ext.trans (E : Ext ty c w c' w') (F : Ext ty c' w' c'' w'') : Ext ty c w c'' w'' := by
 have e := E.cfg
 have f := F.cfg
 have hr := (E.go F.rely).rely
 refine ⟨?_, fun a h => F.own a (E.own a h), fun a h => ?_, fun a h => F.rd a (E.rd a h), fun a h => ?_, hr, F.snug⟩
 · rw [f]
   show ({ c' with own := c''.own, rd := c''.rd } : Cfg) = { c with own := c''.own, rd := c''.rd }
   rw [show ({ c' with own := c''.own, rd := c''.rd } : Cfg) = { ({ c with own := c'.own, rd := c'.rd } : Cfg) with own := c''.own, rd := c''.rd } from by rw [<- e]]
 · rcases F.own' a h with h | h
   · exact E.own' a h
   · exact .inr (Nat.le_trans E.rely.size h)
 · rcases F.rd' a h with h | h
   · exact E.rd' a h
   · exact .inr (Nat.le_trans E.rely.size h)
theorem Ext.fresh {ob : Obj} (S : Snug c w) (S2 : Snug (grown c w (fresh w ob)) (fresh w ob)) : Ext ty c w (grown c w (fresh w ob)) (fresh w ob) := by
 have hsz : w.heap.size <= (Go.Nest.fresh w ob).heap.size := by rw [fresh_size]; omega
 refine ⟨rfl, fun _ h => .inl h, fun a h => h.imp id (·.1), fun _ h => h, fun _ h => .inl h, ⟨hsz, fun a ha => same_of_heap (fresh_old (S.low a ha)), fun b s h => ?_, fun z hz h => ?_, fun z v hz h => ?_, rfl, rfl, rfl⟩, S2⟩
 · have hlt : b < w.heap.size := by
     rcases Nat.lt_or_ge b w.heap.size with h2 | h2
     · exact h2
     · simp [World.shape?, Array.getElem?_eq_none h2] at h
   simp only [World.shape?, fresh_old hlt]; exact h
 · obtain ⟨st, sm, h⟩ := h
   exact ⟨st, sm, (fresh_old (S.cur z hz).1).trans h⟩
 · obtain ⟨st, sm, h⟩ := h
   exact ⟨st, sm, (fresh_old (S.up z v hz).1).trans h⟩
theorem fresh_own {ob : Obj} {a : Addr} (h : a.block = w.heap.size) : (grown c w (Go.Nest.fresh w ob)).own a := .inr ⟨by omega, by rw [fresh_size]; omega⟩
end
end Go.Nest
namespace Go.Nest
open Go Go.Conc
section
variable {P : Program} {α β : Type}
def Hush (P : Program) (x : Sem α) : Prop := ∀ w es, x.events P w es = es
theorem Hush.pure {a : α} : Hush P (Pure.pure a : Sem α) := fun _ _ => rfl
theorem Hush.halt {h : Halt} : Hush P (Sem.halt h : Sem α) := fun _ _ => rfl
theorem Hush.bind {x : Sem α} {f : α -> Sem β} (hx : Hush P x) (hf : ∀ a, Hush P (f a)) : Hush P (x >>= f) := fun w es => by
 rw [Sem.events_bind, hx]
 cases x.run P w with
 | ok a w' => exact hf a w' es
 | halt h w' => rfl
theorem Hush.program : Hush P program := fun _ _ => rfl
theorem Hush.typeInfo {t : TypeId} : Hush P (typeInfo t) := by
 unfold Go.typeInfo
 exact .bind .program fun p => by split <;> first | exact .pure | exact .halt
theorem Hush.underlying {t : TypeId} : Hush P (underlying t) := by
 unfold Go.underlying
 exact .bind .program fun p => by split <;> first | exact .pure | exact .halt
theorem Hush.zeroValue {t : TypeId} : Hush P (zeroValue t) := by
 unfold Go.zeroValue
 exact .bind .typeInfo fun p => by split <;> first | exact .pure | exact .halt
theorem Hush.sizeOf {t : TypeId} : Hush P (Go.sizeOf t) := .bind .typeInfo fun _ => .pure
theorem Hush.mapL {k : α -> Sem β} (hk : ∀ a, Hush P (k a)) : ∀ l : List α, Hush P (l.mapM k)
 | [] => by rw [List.mapM_nil]; exact .pure
 | a :: l => by
   rw [List.mapM_cons]
   exact (hk a).bind fun b => (Hush.mapL hk l).bind fun _ => .pure
theorem Hush.map {k : α -> Sem β} (hk : ∀ a, Hush P (k a)) (l : Array α) : Hush P (l.mapM k) := by
 rw [Array.mapM_eq_mapM_toList, map_eq_pure_bind]
 exact (Hush.mapL hk _).bind fun _ => .pure
theorem Hush.build {t : TypeId} {ps : Array (Nat × Value)} : Hush P (Instr.build t ps) := by
 unfold Instr.build
 refine .bind .zeroValue fun z => .bind .underlying fun d => ?_
 split
 · exact .bind (.map (fun f => .bind .sizeOf fun _ => .pure) _) fun ps => by split <;> first | exact .pure | exact .halt
 · exact .bind .sizeOf fun n => by split <;> first | exact .pure | exact .halt
 · exact .halt
end
def backB (ops : Array Oper) : Bool := (List.range ops.size).all fun i => ((ops[i]?).map fun o => o.after.all fun e => decide (e.on < i)).getD true
theorem all_up {ops : Array Oper} {l : Array Bool} (hs : l.size = ops.size) (hb : backB ops = true) (h : Region.ready .any ops l = []) : ∀ j, j < ops.size -> l.getD j false = true := by
 intro j
 induction j using Nat.strongRecOn with
 | _ j ih =>
   intro hj
   cases hx : l.getD j false with
   | true => rfl
   | false =>
     exfalso
     have hjl : j < l.size := by rw [hs]; exact hj
     have hj2 : j ∈ Region.ready .any ops l := by
       refine mem_ready.2 ⟨?_, ops[j], Array.getElem?_eq_getElem hj, fun e he _ => ?_⟩
       · rw [Array.getD, dif_pos hjl] at hx ⊢; exact hx
       · have h1 := List.all_eq_true.1 hb j (List.mem_range.2 hj)
         rw [Array.getElem?_eq_getElem hj] at h1
         simp only [Option.map_some, Option.getD_some, Array.all_eq_true'] at h1
         have h2 := h1 e he
         have h3 : e.on < j := by simpa using h2
         exact ih _ h3 (by omega)
     rw [h] at hj2
     cases hj2
theorem rep_getD (n j : Nat) : (Array.replicate n false).getD j false = false := by
 simp only [Array.getD_eq_getD_getElem?, Array.getElem?_replicate]
 split <;> rfl
end Go.Nest
namespace Go.Nest
open Go Go.Conc Go.Eq
open Go.ConcN (WgLive)
def Names (low : Nat) (D : Nat -> Prop) : Value -> Prop
 | .pointer (some a) => a.spot = none /\ D a.block /\ low <= a.block
 | v => flatB v = true
noncomputable def frostObj : Obj -> Obj
 | .cells c t f => .cells c t (0, max c.size f.2)
 | o => o
noncomputable def frosted (D : Nat -> Prop) (w : World) : World := open Classical in { w with heap := w.heap.mapIdx fun b o => if D b then frostObj o else o }
theorem frosted_get {D : Nat -> Prop} {w : World} {b : Nat} : (frosted D w).heap[b]? = open Classical in (w.heap[b]?).map fun o => if D b then frostObj o else o := by
 simp [frosted]
theorem frosted_size {D : Nat -> Prop} {w : World} : (frosted D w).heap.size = w.heap.size := by simp [frosted]
section
variable {ty : TypeId} {P : Program} {FinN : Perm -> Perm -> Goroutine -> World -> Prop} {c : Cfg} {w : World} {fns : List Nat} {low : Nat} {D : Nat -> Prop}
noncomputable def renOn (D : Nat -> Prop) : Ren := open Classical in fun b => if D b then some b else none
theorem renOn_some {b b' : Nat} (h : renOn D b = some b') : D b /\ b' = b := by
 unfold renOn at h
 split at h
 · cases h; exact ⟨by assumption, rfl⟩
 · cases h
theorem renOn_of {b : Nat} (h : D b) : renOn D b = some b := by unfold renOn; rw [if_pos h]
theorem names_rel {v : Value} (h : Names low D v) : @VRel (envOf fns D low) (renOn D) v v := by
 letI := envOf fns D low
 unfold Names at h
 split at h
 · exact .pointer ⟨renOn_of h.2.1, rfl, rfl, h.2.2⟩
 · exact flatB_ok h _
theorem names_vs {cells : Array Value} (h : ∀ (i : Nat) v, cells[i]? = some v -> Names low D v) : @VsRel (envOf fns D low) (renOn D) cells cells := by
 letI := envOf fns D low
 refine .of_get? rfl fun i v v' e e' => ?_
 rw [e] at e'; cases e'
 exact names_rel (h i v e)
theorem frosted_rel (hlow : low <= w.heap.size) (hD : ∀ x, D x -> ∃ cells t fr, w.heap[x]? = some (.cells cells t fr) /\ ∀ (i : Nat) v, cells[i]? = some v -> Names low D v) :
   @WRel (envOf fns D low) (renOn D) (frosted D w) w := by
 letI := envOf fns D low
 refine ⟨fun a b c ha hb => (renOn_some ha).2.symm.trans (renOn_some hb).2, fun b b' hb => ?_, rfl, fun b hb => ⟨b, renOn_of hb⟩, fun b hb => ?_, fun b cl t f hb hh i hi => ?_⟩
 · obtain ⟨h1, rfl⟩ := renOn_some hb
   obtain ⟨cells, t, fr, h2, h3⟩ := hD b' h1
   refine ⟨.cells cells t (0, max cells.size fr.2), _, ?_, h2, ⟨names_vs h3, rfl⟩, .inr ⟨h1, fun o ho => ?_⟩⟩
   · rw [frosted_get, h2, Option.map_some, if_pos h1]; rfl
   · simp only [ice] at ho ⊢
     omega
 · have h1 : b < w.heap.size := Nat.lt_of_lt_of_le hb hlow
   have : b < (frosted D w).heap.size := by rw [frosted_size]; exact h1
   exact ⟨_, Array.getElem?_eq_getElem this⟩
 · replace hb : D b := hb
   obtain ⟨cells, t', fr, h2, h3⟩ := hD b hb
   rw [frosted_get, h2, Option.map_some, if_pos hb] at hh
   simp only [frostObj, Option.some.injEq, Obj.cells.injEq] at hh
   obtain ⟨rfl, rfl, rfl⟩ := hh
   simp only
   omega
theorem call_ro {f : FuncId} {args : Array Value} {v : Value} {b' : Frame} {rr : List Frame}
   (hfit : @BodiesOk (envOf fns D low) (@plainRuns (envOf fns D low)) P /\ @FnsOk (envOf fns D low) P /\ @POk (envOf fns D low) P) (hf : f ∈ fns) (S : Snug c w) (hlow : low <= w.heap.size)
   (hD : ∀ x, D x -> Rof c x /\ ∃ cells t fr, w.heap[x]? = some (.cells cells t fr) /\ ∀ (i : Nat) v, cells[i]? = some v -> Names low D v)
   (hargs : @VsRel (envOf fns D low) (renOn D) args args) (hv : ∀ π v', @VRel (envOf fns D low) π v v' -> v' = v)
   (hcall : ∀ u : World, u.heap.size = w.heap.size -> (∀ x cells t fr, D x -> w.heap[x]? = some (.cells cells t fr) -> ∃ fr', u.heap[x]? = some (.cells cells t fr')) -> Calls P f args u fun e _ => e = .returned v)
   (K : ∀ c' w', Ext ty c w c' w' -> ScS ty P FinN .work c' (live (b'.finish v) rr) w') :
   ScS ty P FinN .work c (live (Frame.enter P f args .normal) (b' :: rr)) w := by
 letI := envOf fns D low
 letI : Runs := plainRuns
 have W : WRel (renOn D) (frosted D w) w := frosted_rel hlow fun x hx => (hD x hx).2
 have H : Held c (renOn D) := fun b b' hb a ha => by
   obtain ⟨h1, rfl⟩ := renOn_some hb
   exact ((hD b' h1).1 a ha).imp id fun h => ⟨h1, h⟩
 refine bridge (fun _ h => h) (Post := fun x _ => x = v) hfit.2.2 hfit.2.1 hfit.1 hf hargs W H S (fun t => ?_) (fun x u t h => h) ?_
 · refine (hcall (World.on (frosted D w) t) (by show (frosted D w).heap.size = _; exact frosted_size) fun x cells t' fr hx hh => ?_).mono fun e u he => ⟨v, he, rfl⟩
   refine ⟨(0, max cells.size fr.2), ?_⟩
   show (frosted D w).heap[x]? = _
   rw [frosted_get, hh, Option.map_some, if_pos hx]
   rfl
 · intro x x' π u w' c' A hx W' H' S' hp
   subst hp
   have e := hv π x' hx
   subst e
   refine K c' w' ⟨?_, A.own, A.own', fun a h => ?_, fun a h => ?_, ⟨A.size, fun a ha => A.same a ha fun b hb => (renOn_some hb).1, A.shape, A.cur, A.up, A.os, A.tape, A.output⟩, S'⟩
   · have := A.cfg
     rw [this]
   · have := A.cfg
     rw [this]; exact h
   · have := A.cfg
     rw [this] at h; exact .inl h
end
structure ExtX (ty : TypeId) (X : Addr -> Prop) (c : Cfg) (w : World) (c' : Cfg) (w' : World) : Prop where
 cfg : c' = { c with own := c'.own, rd := c'.rd }
 own : ∀ a, c.own a -> c'.own a
 own' : ∀ a, c'.own a -> c.own a ∨ w.heap.size <= a.block
 rd : ∀ a, c.rd a -> c'.rd a
 rd' : ∀ a, c'.rd a -> c.rd a ∨ c.own a ∨ w.heap.size <= a.block
 size : w.heap.size <= w'.heap.size
 same : ∀ a, c.own a ∨ c.rd a -> ¬ X a -> Same a w w'
 shape : ∀ b s, w.shape? b = some s -> w'.shape? b = some s
 cur : ∀ z, c.cur = some z -> WgLive ty z w -> WgLive ty z w'
 up : ∀ z v, c.up = some (z, v) -> WgLive ty z w -> WgLive ty z w'
 os : w'.os = w.os
 tape : w'.tape = w.tape
 output : w'.output = w.output
 snug : Snug c' w'
section
variable {ty : TypeId} {X Y : Addr -> Prop} {c c' c'' : Cfg} {w w' w'' : World}
theorem Ext.x (E : Ext ty c w c' w') : ExtX ty X c w c' w' :=
 ⟨E.cfg, E.own, E.own', E.rd, fun a h => (E.rd' a h).imp id .inr, E.rely.size, fun a h _ => E.rely.same a h, E.rely.shape, E.rely.cur, E.rely.up, E.rely.os, E.rely.tape, E.rely.output, E.snug⟩
theorem ExtX.refl (S : Snug c w) : ExtX ty X c w c w := (Ext.refl S).x
theorem ExtX.mono (E : ExtX ty X c w c' w') (h : ∀ a, X a -> Y a) : ExtX ty Y c w c' w' := { E with same := fun a ha hn => E.same a ha fun hx => hn (h a hx) }
theorem ExtX.rof (E : ExtX ty X c w c' w') : ∀ b, Rof c b -> Rof c' b := fun _ h a ha => (h a ha).imp (E.own a) (E.rd a)
theorem ExtX.trans (E : ExtX ty X c w c' w') (F : ExtX ty Y c' w' c'' w'') (hY : ∀ a, Y a -> c.own a ∨ c.rd a -> X a) : ExtX ty X c w c'' w'' := by
 have e := E.cfg
 have f := F.cfg
 refine ⟨?_, fun a h => F.own a (E.own a h), fun a h => ?_, fun a h => F.rd a (E.rd a h), fun a h => ?_, Nat.le_trans E.size F.size, fun a ha hn => (E.same a ha hn).trans (F.same a (ha.imp (E.own a) (E.rd a)) fun hy => hn (hY a hy ha)), fun b s h => F.shape b s (E.shape b s h),
   fun z hz h => F.cur z (by rw [e]; exact hz) (E.cur z hz h), fun z v hz h => F.up z v (by rw [e]; exact hz) (E.up z v hz h), F.os.trans E.os, F.tape.trans E.tape, F.output.trans E.output, F.snug⟩
 · rw [f]
   show ({ c' with own := c''.own, rd := c''.rd } : Cfg) = { c with own := c''.own, rd := c''.rd }
   rw [show ({ c' with own := c''.own, rd := c''.rd } : Cfg) = { ({ c with own := c'.own, rd := c'.rd } : Cfg) with own := c''.own, rd := c''.rd } from by rw [<- e]]
 · rcases F.own' a h with h | h
   · exact E.own' a h
   · exact .inr (Nat.le_trans E.size h)
 · rcases F.rd' a h with h | h | h
   · exact E.rd' a h
   · exact (E.own' a h).elim (fun x => .inr (.inl x)) fun x => .inr (.inr x)
   · exact .inr (.inr (Nat.le_trans E.size h))
theorem ExtX.go (E : ExtX ty X c w c' w') (hr : Rely ty c' w' w'') : ExtX ty X c w c' w'' := by
 have e := E.cfg
 exact ⟨E.cfg, E.own, E.own', E.rd, E.rd', Nat.le_trans E.size hr.size, fun a ha hn => (E.same a ha hn).trans (hr.same a (ha.imp (E.own a) (E.rd a))), fun b s h => hr.shape b s (E.shape b s h), fun z hz h => hr.cur z (by rw [e]; exact hz) (E.cur z hz h),
   fun z v hz h => hr.up z v (by rw [e]; exact hz) (E.up z v hz h), hr.os.trans E.os, hr.tape.trans E.tape, hr.output.trans E.output, E.snug.rely hr⟩
theorem ExtX.write {x : Addr} {v : Value} (S : Snug c w) (hx : c.own x) (hc : ∃ u, w.cell? x = some u) : ExtX ty (· = x) c w c (w.setCell x v) /\ (w.setCell x v).cell? x = some v := by
 have O := ord_write (ty := ty) (v := v) (es := #[]) S hx hc fun e he => by simp at he
 have hlow := S.low x (.inl hx)
 have hsz : (w.setCell x v).heap.size = w.heap.size := by simp [World.setCell]
 have hne : ∀ y, y ≠ x.block -> (w.setCell x v).heap[y]? = w.heap[y]? := fun y hy => modify_ne hy
 obtain ⟨u, hu⟩ := hc
 refine ⟨⟨rfl, fun _ h => h, fun _ h => .inl h, fun _ h => h, fun _ h => .inl h, by rw [hsz]; exact Nat.le_refl _, fun a ha hn => ?_, O.shape, fun z hz h => ?_, fun z v hz h => ?_, rfl, rfl, rfl, ⟨fun a ha => by rw [hsz]; exact S.low a ha, fun z hz => by rw [hsz]; exact S.cur z hz, fun z v hz => by rw [hsz]; exact S.up z v hz⟩⟩, World.cell?_setCell_same _ _ _ hu⟩
 · by_cases e : a.block = x.block
   · obtain ⟨cells, t, f, hh⟩ : ∃ cells t f, w.heap[x.block]? = some (.cells cells t f) := by
       unfold World.cell? at hu
       split at hu
       · exact ⟨_, _, _, by assumption⟩
       · cases hu
     have hsp : x.spot.isSome = false := by
       cases e : x.spot.isSome with
       | false => rfl
       | true => simp [World.cell?, hh, e] at hu
     have hh2 : (w.setCell x v).heap[x.block]? = some (.cells (cells.setIfInBounds x.off v) t f) := by
       simp [World.setCell, Array.getElem?_modify, hh, hsp]
     have hne2 : a.spot.isSome = false -> a.off ≠ x.off := fun hy2 e2 => hn (by
       obtain ⟨b1, o1, s1⟩ := x
       obtain ⟨b2, o2, s2⟩ := a
       simp only [Option.isSome_eq_false_iff, Option.isNone_iff_eq_none] at hsp hy2
       simp_all)
     refine ⟨?_, ?_, ?_, fun hs => ?_, by simp only [frost, e, hh2, hh]⟩
     · simp only [World.cell?, e, hh2, hh]
       cases hy2 : a.spot.isSome with
       | true => rfl
       | false =>
         simp only [Bool.false_eq_true, if_false]
         rw [Array.getElem?_setIfInBounds, if_neg (Ne.symm (hne2 hy2))]
     · simp only [World.frozen?, e, hh2, hh]
     · simp [World.shape?, e, hh2, hh]
     · rw [e] at hs; simp [World.shape?, hh] at hs
   · exact same_of_heap (hne _ e)
 · obtain ⟨st, sm, h⟩ := h
   exact ⟨st, sm, (hne z fun e => (S.cur z hz).2 x e.symm (.inl hx)).trans h⟩
 · obtain ⟨st, sm, h⟩ := h
   exact ⟨st, sm, (hne z fun e => (S.up z _ hz).2 x e.symm (.inl hx)).trans h⟩
end
end Go.Nest
