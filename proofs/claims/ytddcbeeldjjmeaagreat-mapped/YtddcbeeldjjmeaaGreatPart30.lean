/- A STORE IS SET, alone. -/
import Derived.Test.YtddcbeeldjjmeaaGreatPart29
import Derived.Test.YtddcbeeldjjmeaaGreatPart12
import Derived.StringKeys
namespace Go.Proofs.YtddcbeeldjjmeaaGreat
open Go Go.RowKit Go.Nest Go.Tm Go.Proofs.YtddcbeeldjjmeaaGreat.Tw Go.Maps
set_option linter.unusedVariables false
set_option linter.unusedSimpArgs false
theorem strKeyed : Keyed Tryz.prog strT:= string_keyed Tryz.underlying9
theorem strKey (s : ByteArray) (h : s.size <= 1000) : keyOf Tryz.prog strT (.string s) = some (.string s.data.toList):= WideMaps.keyOf_string_mk Tryz.underlying9 (by unfold maxLen; omega)
def there (v : ByteArray) : Value:= .agg #[.string v, .bool true]
def gone : Value:= .agg #[.string noText, .bool false]
set_option maxRecDepth 20000 in
set_option maxHeartbeats 8000000 in
theorem set_any {w : World} {s bb cb vb n : Nat} {wd nw : Int} {F : Lit -> Option Value} {key v : ByteArray} (hS : StoreAt w s wd bb cb vb nw) (hM : MapAt Tryz.prog strT w cb n F) (hn : n < 1000000000000000) (hne : s ≠ cb) (hk1 : 1 <= key.size) (hk4 : key.size <= 4) (hv : v.size <= 20) :
   Calls Tryz.prog 14 #[.pointer (some ⟨s, 0, none⟩), .string key, .string v] w fun e w' => e = .returned (.int .i64 0) /\ MapAt Tryz.prog strT w' cb (n + 1) (upd F (.string key.data.toList) (some (there v))) /\ w.grownBy w' (some cb):= by
 obtain ⟨h0, h1, h2, h3, h4⟩:= hS.cells
 have hs:= hS.lt
 have hsne : some s ≠ some cb:= fun e => hne (Option.some.inj e)
 have hcb:= hM.lt
 have hkey:= strKey key (by omega)
 have hkb:= fun w => keyIn_any (key.size : Int) w
 rw [decide_eq_true (show (1 : Int) <= (key.size : Int) /\ (key.size : Int) <= 4 from ⟨by omega, by omega⟩)] at hkb
 have hvb:= fun w => lengthIn_any (v.size : Int) w
 rw [decide_eq_true (show (0 : Int) <= (v.size : Int) /\ (v.size : Int) <= 20 from ⟨by omega, by omega⟩)] at hvb
 have hA : ∀ n : Nat, (w.drewN n).cell? ⟨s, 2, none⟩ = some (.map (some cb)):= fun n => h2
 have hA2 : w.drew.cell? ⟨s, 2, none⟩ = some (.map (some cb)):= h2
 have hck:= fun w => clone_any key w (by omega)
 have hcv:= fun w => clone_any v w (by omega)
 go_enter Tryz.func14, Tryz.ntmps14
 go_wp2_with (first
   | (go_at_call 22; refine (hkb _).mono ?_; rintro e w' ⟨rfl, hw1⟩; have hw2:= hw1.symm; subst hw2; clear hw1)
   | (go_at_call 30; refine (hvb _).mono ?_; rintro e w' ⟨rfl, hw1⟩; have hw2:= hw1.symm; subst hw2; clear hw1))
 go_region_held3 (fun w' => w'.cell? ⟨s, 2, none⟩ = some (.map (some cb))) (first | go_keep | (rw [hgrow.cell_far ⟨s, 2, none⟩ (by show s < _; omega) hsne]; assumption) | (simp [hgrow.cell_far ⟨s, 2, none⟩ (by show s < _; omega) hsne, *]))
   (first
   | (go_at_call 24; refine (hck _).mono ?_; rintro e w2 ⟨rfl, hB2⟩; have hM2:= hM.same (hB2.block cb hcb); have hc2:= hB2.cell (p:= ⟨s, 2, none⟩) hs; have hy2 : w.heap.size <= w2.heap.size:= hB2.size)
   | (go_at_call 24; refine (hcv _).mono ?_; rintro e w3 ⟨rfl, hB3⟩; have hM3:= hM2.same (hB3.block cb (by omega)); have hc3:= hB3.cell (p:= ⟨s, 2, none⟩) (by show s < _; omega); have hy3 : w2.heap.size <= w3.heap.size:= hB3.size; obtain ⟨w4, hrun, hM4, hgrow⟩:= hM3.update (t:= 71) strKeyed Tryz.underlying71 (by unfold maxLen; omega) (there v) hkey; unfold there at hrun))
 go_wp2_with fail
 go_ret
 exact ⟨rfl, hM4, ((below_grown _ (below_drewN _ _ 1)).trans (below_grown _ hB2)).trans ((below_grown _ hB3).trans hgrow)⟩
variable {dg : DG}
theorem zeroChange (w : World) : (zeroValue 70).run Tryz.prog w = .ok (.agg #[.string noText, .bool false]) w:= Tryz.zeroValue70 w
set_option maxRecDepth 20000 in
set_option maxHeartbeats 8000000 in
theorem now_some {w : World} {s bb cb vb n : Nat} {wd nw : Int} {F : Lit -> Option Value} {key v : ByteArray} {tt : Bool} (hS : StoreAt w s wd bb cb vb nw) (hM : MapAt Tryz.prog strT w cb n F) (hk4 : key.size <= 4) (hF : F (.string key.data.toList) = some (.agg #[.string v, .bool tt])) :
   Calls Tryz.prog 23 #[.pointer (some ⟨s, 0, none⟩), .string key] w fun e w' => e = .returned (.tuple #[.string v, .bool tt]) /\ Below w.heap.size w w':= by
 obtain ⟨h0, h1, h2, h3, h4⟩:= hS.cells
 have hs:= hS.lt
 have hkey:= strKey key (by omega)
 have hlk:= hM.look (t:= 71) strKeyed Tryz.underlying71 (zeroChange w) hkey
 rw [hF] at hlk
 simp only [Option.getD_some, Option.isSome_some] at hlk
 go_enter Tryz.func23, Tryz.ntmps23
 go_wp2_with fail
 go_region
 go_wp2_with fail
 refine bodyPost_ret (v:= .tuple #[.string v, .bool tt]) (by simp [results, Tryz.results23, go_sem]; try rfl) rfl ⟨rfl, ?_⟩
 exact ((Below.refl _ w).alloc (Nat.le_refl _) _).drew
set_option maxRecDepth 20000 in
set_option maxHeartbeats 8000000 in
theorem now_none {w : World} {s bb cb vb n : Nat} {wd nw : Int} {F : Lit -> Option Value} {key : ByteArray} {t : T ByteArray} (hS : StoreAt w s wd bb cb vb nw) (hM : MapAt Tryz.prog strT w cb n F) (hT : TAt dg w t bb) (hf : Fits t (kb key.data.toList)) (hk4 : key.size <= 4) (hF : F (.string key.data.toList) = none) :
   Calls Tryz.prog 23 #[.pointer (some ⟨s, 0, none⟩), .string key] w fun e w' => e = .returned (gotten (t.get (kb key.data.toList))) /\ Below w.heap.size w w':= by
 obtain ⟨h0, h1, h2, h3, h4⟩:= hS.cells
 have hs:= hS.lt
 have hkey:= strKey key (by omega)
 have hlk:= hM.look (t:= 71) strKeyed Tryz.underlying71 (zeroChange w) hkey
 rw [hF] at hlk
 simp only [Option.getD_none, Option.isSome_none] at hlk
 have hbits:= fun w => bits_any key w hk4
 obtain ⟨g1, g2, hg⟩ : ∃ (g1 : ByteArray) (g2 : Bool), gotten (t.get (kb key.data.toList)) = .tuple #[.string g1, .bool g2]:= by
   cases t.get (kb key.data.toList) with
   | none => exact ⟨_, _, rfl⟩
   | some v => exact ⟨_, _, rfl⟩
 have hget : ∀ w1, TAt dg w1 t bb -> Calls Tryz.prog 31 #[.pointer (ptr bb), .string (str (kb key.data.toList))] w1 fun e w' => e = .returned (.tuple #[.string g1, .bool g2]) /\ ∃ n, w' = w1.drewN n:= fun w1 h => by
   have:= get_any hf h
   rw [hg] at this
   exact this
 rw [hg]
 generalize str (kb key.data.toList) = KB at hbits hget
 go_enter Tryz.func23, Tryz.ntmps23
 go_wp2_with fail
 obtain ⟨wa, hwa⟩ : ∃ wa, wa = w.alloc (.cells #[.string noText, .bool false] 70):= ⟨_, rfl⟩
 have hBa : Below w.heap.size w wa:= by rw [hwa]; exact (Below.refl _ w).alloc (Nat.le_refl _) _
 have ha1 : wa.cell? ⟨s, 1, none⟩ = some (.pointer (ptr bb)):= (hBa.cell (p:= ⟨s, 1, none⟩) hs).trans h1
 have hTa:= TAt.below hT hBa
 have hTd : TAt dg wa.drew t bb:= TAt.below hTa (below_drewN _ _ 1)
 have hya : w.heap.size <= wa.heap.size:= hBa.size
 rw [<- hwa]
 clear hwa hlk
 have ha2 : wa.drew.cell? ⟨s, 1, none⟩ = some (.pointer (ptr bb)):= ha1
 go_region_held3 (fun w' => w'.cell? ⟨s, 1, none⟩ = some (.pointer (ptr bb))) (go_keep)
   (first
   | (go_at_call 32; refine (hbits _).mono ?_; rintro e w2 ⟨rfl, hB2⟩; have hT2:= TAt.below hTd hB2; have hc2:= hB2.cell (p:= ⟨s, 1, none⟩) (by show s < wa.heap.size; omega))
   | (go_at_call 31; refine (hget _ hT2).mono ?_; rintro e w3 ⟨rfl, n3, rfl⟩))
 go_wp2_with fail
 refine bodyPost_ret (v:= .tuple #[.string g1, .bool g2]) (by simp [results, Tryz.results23, go_sem]; try rfl) rfl ⟨rfl, ?_⟩
 exact below_mono (below_mono (below_mono hBa (below_drewN _ _ 1)) hB2) (below_drewN _ _ _)
variable {dg : DG}
set_option maxRecDepth 20000 in
set_option maxHeartbeats 8000000 in
theorem get_yes {w : World} {s : Nat} {key v : ByteArray} (hk1 : 1 <= key.size) (hk4 : key.size <= 4) (hv : v.size <= 1000000)
   (hnow : Calls Tryz.prog 23 #[.pointer (some ⟨s, 0, none⟩), .string key] w fun e w' => e = .returned (.tuple #[.string v, .bool true]) /\ Below w.heap.size w w') :
   Calls Tryz.prog 8 #[.pointer (some ⟨s, 0, none⟩), .string key] w fun e w' => e = .returned (.tuple #[.string v, .int .i64 0]) /\ Below w.heap.size w w':= by
 have hkb:= fun w => keyIn_any (key.size : Int) w
 rw [decide_eq_true (show (1 : Int) <= (key.size : Int) /\ (key.size : Int) <= 4 from ⟨by omega, by omega⟩)] at hkb
 have hcv:= fun w => clone_any v w (by omega)
 go_enter Tryz.func8, Tryz.ntmps8
 go_wp2_with (first
   | (go_at_call 22; refine (hkb _).mono ?_; rintro e w' ⟨rfl, hw1⟩; have hw2:= hw1.symm; subst hw2; clear hw1)
   | (go_at_call 23; refine hnow.mono ?_; rintro e w2 ⟨rfl, hB2⟩)
   | (go_at_call 24; refine (hcv _).mono ?_; rintro e w3 ⟨rfl, hB3⟩))
 exact bodyPost_ret (v:= .tuple #[.string v, .int .i64 0]) (by simp [results, Tryz.results8, go_sem]; try rfl) rfl ⟨rfl, below_mono hB2 hB3⟩
set_option maxRecDepth 20000 in
set_option maxHeartbeats 8000000 in
theorem get_no {w : World} {s : Nat} {key v : ByteArray} (hk1 : 1 <= key.size) (hk4 : key.size <= 4)
   (hnow : Calls Tryz.prog 23 #[.pointer (some ⟨s, 0, none⟩), .string key] w fun e w' => e = .returned (.tuple #[.string v, .bool false]) /\ Below w.heap.size w w') :
   Calls Tryz.prog 8 #[.pointer (some ⟨s, 0, none⟩), .string key] w fun e w' => e = .returned (.tuple #[.string noText, .int .i64 7]) /\ Below w.heap.size w w':= by
 have hkb:= fun w => keyIn_any (key.size : Int) w
 rw [decide_eq_true (show (1 : Int) <= (key.size : Int) /\ (key.size : Int) <= 4 from ⟨by omega, by omega⟩)] at hkb
 go_enter Tryz.func8, Tryz.ntmps8
 go_wp2_with (first
   | (go_at_call 22; refine (hkb _).mono ?_; rintro e w' ⟨rfl, hw1⟩; have hw2:= hw1.symm; subst hw2; clear hw1)
   | (go_at_call 23; refine hnow.mono ?_; rintro e w2 ⟨rfl, hB2⟩))
 exact bodyPost_ret (v:= .tuple #[.string noText, .int .i64 7]) (by simp [results, Tryz.results8, go_sem]; try rfl) rfl ⟨rfl, hB2⟩
def nowHas (F : Lit -> Option Value) (t : T ByteArray) (key : List UInt8) : Option ByteArray :=
 match F (.string key) with
 | some (.agg #[.string v, .bool true]) => some v
 | some _ => none
 | none => t.get (kb key)
def Tells (F : Lit -> Option Value) : Prop:= ∀ k v, F k = some v -> (∃ x : ByteArray, v = there x /\ x.size <= 20) \/ v = gone
def told : Option ByteArray -> Value
 | some v => .tuple #[.string v, .int .i64 0]
 | none => .tuple #[.string noText, .int .i64 7]
theorem getS_any {w : World} {s bb cb vb n : Nat} {wd nw : Int} {F : Lit -> Option Value} {key : ByteArray} {t : T ByteArray} (hS : StoreAt w s wd bb cb vb nw) (hM : MapAt Tryz.prog strT w cb n F) (hT : TAt dg w t bb) (hf : Fits t (kb key.data.toList)) (hF : Tells F) (hv : ∀ q v, t.get q = some v -> v.size <= 1000000) (hk1 : 1 <= key.size) (hk4 : key.size <= 4) :
   Calls Tryz.prog 8 #[.pointer (some ⟨s, 0, none⟩), .string key] w fun e w' => e = .returned (told (nowHas F t key.data.toList)) /\ Below w.heap.size w w':= by
 unfold nowHas
 cases hk : F (.string key.data.toList) with
 | none =>
   have hnow:= now_none (dg:= dg) hS hM hT hf hk4 hk
   cases hg : t.get (kb key.data.toList) with
   | none => rw [hg] at hnow; exact get_no hk1 hk4 hnow
   | some v => rw [hg] at hnow; exact get_yes hk1 hk4 (hv _ _ hg) hnow
 | some o =>
   rcases hF _ _ hk with ⟨x, rfl, hx⟩ | rfl
   . exact get_yes hk1 hk4 (by omega) (now_some hS hM hk4 hk)
   . exact get_no hk1 hk4 (now_some hS hM hk4 hk)
variable {dg : DG}
theorem intKeyed : Keyed Tryz.prog intT:= int_keyed Tryz.underlying3
theorem intKey (n : Int) (h0 : 0 <= n) (h1 : n <= 1000000000000000) : keyOf Tryz.prog intT (.int .i64 n) = some (.int .i64 n):= keyOf_int_mk Tryz.underlying3 (by
 have : IntKind.i64.wrap n = n:= Go.wrap_small _ h0 (by omega)
 simp [Lit.wf, IntKind.min, IntKind.max, IntKind.signed, IntKind.bits]; omega)
theorem zeroNode (w : World) : (zeroValue 63).run Tryz.prog w = .ok (.pointer none) w:= Tryz.zeroValue63 w
set_option maxRecDepth 20000 in
set_option maxHeartbeats 8000000 in
theorem version_yes {w : World} {s bb cb vb m x : Nat} {wd nw n : Int} {F : Lit -> Option Value} (hS : StoreAt w s wd bb cb vb nw) (hM : MapAt Tryz.prog intT w vb m F) (h0 : 0 <= n) (h1 : n <= 1000000000000000) (hF : F (.int .i64 n) = some (.pointer (ptr x))) :
   Calls Tryz.prog 25 #[.pointer (some ⟨s, 0, none⟩), .int .i64 n] w fun e w' => e = .returned (.tuple #[.pointer (ptr x), .int .i64 0]) /\ w' = w:= by
 obtain ⟨c0, c1, c2, c3, c4⟩:= hS.cells
 have hs:= hS.lt
 have hlk:= hM.look (t:= 72) intKeyed Tryz.underlying72 (zeroNode w) (intKey n h0 h1)
 rw [hF] at hlk
 simp only [Option.getD_some, Option.isSome_some] at hlk
 go_enter Tryz.func25, Tryz.ntmps25
 go_wp2_with fail
 exact bodyPost_ret (v:= .tuple #[.pointer (ptr x), .int .i64 0]) (by simp [results, Tryz.results25, go_sem]; try rfl) rfl ⟨rfl, rfl⟩
set_option maxRecDepth 20000 in
set_option maxHeartbeats 8000000 in
theorem version_no {w : World} {s bb cb vb m : Nat} {wd nw n : Int} {F : Lit -> Option Value} (hS : StoreAt w s wd bb cb vb nw) (hM : MapAt Tryz.prog intT w vb m F) (h0 : 1 <= n) (h1 : n <= nw) (h2 : nw <= 1000000000000000) (hF : F (.int .i64 n) = none) :
   Calls Tryz.prog 25 #[.pointer (some ⟨s, 0, none⟩), .int .i64 n] w fun e w' => e = .returned (.tuple #[.pointer none, .int .i64 9]) /\ w' = w:= by
 obtain ⟨c0, c1, c2, c3, c4⟩:= hS.cells
 have hs:= hS.lt
 have hlk:= hM.look (t:= 72) intKeyed Tryz.underlying72 (zeroNode w) (intKey n (by omega) (by omega))
 rw [hF] at hlk
 simp only [Option.getD_none, Option.isSome_none] at hlk
 have hv:= fun w => versionIn_any n nw w
 rw [decide_eq_true (show 1 <= n /\ n <= nw from ⟨h0, h1⟩)] at hv
 go_enter Tryz.func25, Tryz.ntmps25
 go_wp2_with (go_at_call 41; refine (hv _).mono ?_; rintro e w' ⟨rfl, hw1⟩; have hw2:= hw1.symm; subst hw2; clear hw1)
 exact bodyPost_ret (v:= .tuple #[.pointer none, .int .i64 9]) (by simp [results, Tryz.results25, go_sem]; try rfl) rfl ⟨rfl, rfl⟩
set_option maxRecDepth 20000 in
set_option maxHeartbeats 4000000 in
theorem root_yes {w : World} {s x : Nat} {n k d : Int} {p v : ByteArray} {l r : Option Addr} {sl : Bool} (hN : NodeAt ndT w x k p v l r d sl)
   (hv : Calls Tryz.prog 25 #[.pointer (some ⟨s, 0, none⟩), .int .i64 n] w fun e w' => e = .returned (.tuple #[.pointer (ptr x), .int .i64 0]) /\ w' = w) :
   Calls Tryz.prog 10 #[.pointer (some ⟨s, 0, none⟩), .int .i64 n] w fun e w' => e = .returned (.tuple #[.int .i64 d, .int .i64 0]) /\ w' = w:= by
 have hd:= digest_any (t:= (.empty : T ByteArray)) hN
 go_enter Tryz.func10, Tryz.ntmps10
 go_wp2_with (first
   | (go_at_call 25; refine hv.mono ?_; rintro e w' ⟨rfl, hw1⟩; have hw2:= hw1.symm; subst hw2; clear hw1)
   | (go_at_call 27; refine hd.mono ?_; rintro e w' ⟨rfl, hw1⟩; have hw2:= hw1.symm; subst hw2; clear hw1))
 exact bodyPost_ret (v:= .tuple #[.int .i64 d, .int .i64 0]) (by simp [results, Tryz.results10, go_sem]; try rfl) rfl ⟨rfl, rfl⟩
set_option maxRecDepth 20000 in
set_option maxHeartbeats 4000000 in
theorem root_no {w : World} {s : Nat} {n : Int}
   (hv : Calls Tryz.prog 25 #[.pointer (some ⟨s, 0, none⟩), .int .i64 n] w fun e w' => e = .returned (.tuple #[.pointer none, .int .i64 9]) /\ w' = w) :
   Calls Tryz.prog 10 #[.pointer (some ⟨s, 0, none⟩), .int .i64 n] w fun e w' => e = .returned (.tuple #[.int .i64 0, .int .i64 9]) /\ w' = w:= by
 go_enter Tryz.func10, Tryz.ntmps10
 go_wp2_with (go_at_call 25; refine hv.mono ?_; rintro e w' ⟨rfl, hw1⟩; have hw2:= hw1.symm; subst hw2; clear hw1)
 exact bodyPost_ret (v:= .tuple #[.int .i64 0, .int .i64 9]) (by simp [results, Tryz.results10, go_sem]; try rfl) rfl ⟨rfl, rfl⟩
set_option maxRecDepth 20000 in
set_option maxHeartbeats 4000000 in
theorem walkS_no {w : World} {s : Nat} {n : Int}
   (hv : Calls Tryz.prog 25 #[.pointer (some ⟨s, 0, none⟩), .int .i64 n] w fun e w' => e = .returned (.tuple #[.pointer none, .int .i64 9]) /\ w' = w) :
   Calls Tryz.prog 9 #[.pointer (some ⟨s, 0, none⟩), .int .i64 n] w fun e w' => e = .returned (.tuple #[.slice none 0 0, .int .i64 9]) /\ w' = w:= by
 go_enter Tryz.func9, Tryz.ntmps9
 go_wp2_with (go_at_call 25; refine hv.mono ?_; rintro e w' ⟨rfl, hw1⟩; have hw2:= hw1.symm; subst hw2; clear hw1)
 exact bodyPost_ret (v:= .tuple #[.slice none 0 0, .int .i64 9]) (by simp [results, Tryz.results9, go_sem]; try rfl) rfl ⟨rfl, rfl⟩
set_option maxRecDepth 20000 in
set_option maxHeartbeats 4000000 in
theorem pairs_any {w : World} {t : T ByteArray} {L : List (Bits × ByteArray)} {l : KV} {b : Nat} (hr : Rep L t) (hw : L = l.bits) (hok : l.ok) (hT : TAt dg w t b) (hn : l.length <= 50000) :
   Calls Tryz.prog 26 #[.pointer (ptr b)] w fun e w' => ∃ v, e = .returned v /\ OwnP w.heap.size w' v l.prs /\ Below w.heap.size w w':= by
 have hh:= walk_any (w0:= w) t [] L l b hr (by rw [rep_walk hr, pre_nil, hw]) hok hT (by simp) [] (.slice none 0 0) w (Below.refl _ _) (Nat.le_refl _) (OwnP.nil _ _) (by simpa using hn)
 simp only [List.nil_append] at hh
 simp only [ptr] at hh ⊢
 go_enter Tryz.func26, Tryz.ntmps26
 go_wp2_with (go_at_call 42; refine hh.mono ?_; rintro e w2 ⟨v2, rfl, hO, hB⟩)
 go_ret
 exact ⟨_, rfl, hO, hB⟩
set_option maxRecDepth 20000 in
set_option maxHeartbeats 4000000 in
theorem walkS_yes {w : World} {s x : Nat} {n : Int} {ps : List (ByteArray × ByteArray)}
   (hv : Calls Tryz.prog 25 #[.pointer (some ⟨s, 0, none⟩), .int .i64 n] w fun e w' => e = .returned (.tuple #[.pointer (some ⟨x, 0, none⟩), .int .i64 0]) /\ w' = w)
   (hp : Calls Tryz.prog 26 #[.pointer (some ⟨x, 0, none⟩)] w fun e w' => ∃ v, e = .returned v /\ OwnP w.heap.size w' v ps /\ Below w.heap.size w w') :
   Calls Tryz.prog 9 #[.pointer (some ⟨s, 0, none⟩), .int .i64 n] w fun e w' => ∃ v, e = .returned (.tuple #[v, .int .i64 0]) /\ OwnP w.heap.size w' v ps /\ Below w.heap.size w w':= by
 go_enter Tryz.func9, Tryz.ntmps9
 go_wp2_with (first
   | (go_at_call 25; refine hv.mono ?_; rintro e w' ⟨rfl, hw1⟩; have hw2:= hw1.symm; subst hw2; clear hw1)
   | (go_at_call 26; refine hp.mono ?_; rintro e w2 ⟨v2, rfl, hO, hB⟩))
 exact bodyPost_ret (v:= .tuple #[v2, .int .i64 0]) (by simp [results, Tryz.results9, go_sem]; try rfl) rfl ⟨v2, rfl, hO, hB⟩
variable {dg : DG}
set_option maxRecDepth 20000 in
set_option maxHeartbeats 4000000 in
theorem prune_yes {w : World} {s bb cb vb m x : Nat} {wd nw n : Int} {F : Lit -> Option Value} (hS : StoreAt w s wd bb cb vb nw) (hM : MapAt Tryz.prog intT w vb m F) (h0 : 0 <= n) (h1 : n <= 1000000000000000)
   (hv : Calls Tryz.prog 25 #[.pointer (some ⟨s, 0, none⟩), .int .i64 n] w fun e w' => e = .returned (.tuple #[.pointer (ptr x), .int .i64 0]) /\ w' = w) :
   Calls Tryz.prog 20 #[.pointer (some ⟨s, 0, none⟩), .int .i64 n] w fun e w' => e = .returned (.int .i64 0) /\ MapAt Tryz.prog intT w' vb m (upd F (.int .i64 n) none) /\ w.grownBy w' (some vb):= by
 obtain ⟨c0, c1, c2, c3, c4⟩:= hS.cells
 have hs:= hS.lt
 have hkey:= intKey n h0 h1
 go_enter Tryz.func20, Tryz.ntmps20
 go_wp2_with (first
   | (go_at_call 25; refine hv.mono ?_; rintro e w' ⟨rfl, hw1⟩; have hw2:= hw1.symm; subst hw2; clear hw1)
   | (at_delete; refine wpList_delete_map rfl _ _ 72 rfl 63 intKeyed Tryz.underlying72 rfl hM _ _ rfl hkey ?_; intro w1 hM1 hgrow))
 go_ret
 exact ⟨rfl, hM1, hgrow⟩
set_option maxRecDepth 20000 in
set_option maxHeartbeats 4000000 in
theorem prune_no {w : World} {s : Nat} {n : Int}
   (hv : Calls Tryz.prog 25 #[.pointer (some ⟨s, 0, none⟩), .int .i64 n] w fun e w' => e = .returned (.tuple #[.pointer none, .int .i64 9]) /\ w' = w) :
   Calls Tryz.prog 20 #[.pointer (some ⟨s, 0, none⟩), .int .i64 n] w fun e w' => e = .returned (.int .i64 9) /\ w' = w:= by
 go_enter Tryz.func20, Tryz.ntmps20
 go_wp2_with (go_at_call 25; refine hv.mono ?_; rintro e w' ⟨rfl, hw1⟩; have hw2:= hw1.symm; subst hw2; clear hw1)
 go_ret
 exact ⟨rfl, rfl⟩
set_option maxRecDepth 20000 in
set_option maxHeartbeats 4000000 in
theorem delete_no {w : World} {s : Nat} {key : ByteArray}
   (hg : Calls Tryz.prog 8 #[.pointer (some ⟨s, 0, none⟩), .string key] w fun e w' => e = .returned (.tuple #[.string noText, .int .i64 7]) /\ Below w.heap.size w w') :
   Calls Tryz.prog 17 #[.pointer (some ⟨s, 0, none⟩), .string key] w fun e w' => e = .returned (.int .i64 7) /\ Below w.heap.size w w':= by
 go_enter Tryz.func17, Tryz.ntmps17
 go_wp2_with (go_at_call 8; refine hg.mono ?_; rintro e w2 ⟨rfl, hB2⟩)
 go_ret
 exact ⟨rfl, hB2⟩
set_option maxRecDepth 20000 in
set_option maxHeartbeats 8000000 in
theorem delete_new {w : World} {s bb cb vb n : Nat} {wd nw : Int} {F : Lit -> Option Value} {key v KB : ByteArray} {t : T ByteArray} (hS : StoreAt w s wd bb cb vb nw) (hM : MapAt Tryz.prog strT w cb n F) (hT : TAt dg w t bb) (hk4 : key.size <= 4)
   (hg : Calls Tryz.prog 8 #[.pointer (some ⟨s, 0, none⟩), .string key] w fun e w' => e = .returned (.tuple #[.string v, .int .i64 0]) /\ Below w.heap.size w w')
   (hbits : ∀ w, Calls Tryz.prog 32 #[.string key] w fun e w' => e = .returned (.string KB) /\ Below w.heap.size w w')
   (hget : ∀ w1, TAt dg w1 t bb -> Calls Tryz.prog 31 #[.pointer (ptr bb), .string KB] w1 fun e w' => e = .returned (.tuple #[.string noText, .bool false]) /\ ∃ n, w' = w1.drewN n) :
   Calls Tryz.prog 17 #[.pointer (some ⟨s, 0, none⟩), .string key] w fun e w' => e = .returned (.int .i64 0) /\ MapAt Tryz.prog strT w' cb n (upd F (.string key.data.toList) none) /\ w.grownBy w' (some cb):= by
 obtain ⟨c0, c1, c2, c3, c4⟩:= hS.cells
 have hs:= hS.lt
 have hcb:= hM.lt
 have hkey:= strKey key (by omega)
 go_enter Tryz.func17, Tryz.ntmps17
 go_wp2_with (go_at_call 8; refine hg.mono ?_; rintro e w2 ⟨rfl, hB2⟩)
 have hy2 : w.heap.size <= w2.heap.size:= hB2.size
 have d1 : w2.cell? ⟨s, 1, none⟩ = some (.pointer (ptr bb)):= (hB2.cell (p:= ⟨s, 1, none⟩) hs).trans c1
 have d2 : w2.cell? ⟨s, 2, none⟩ = some (.map (some cb)):= (hB2.cell (p:= ⟨s, 2, none⟩) hs).trans c2
 have d1' : w2.drew.cell? ⟨s, 1, none⟩ = some (.pointer (ptr bb)):= d1
 have d2' : w2.drew.cell? ⟨s, 2, none⟩ = some (.map (some cb)):= d2
 have hT2:= TAt.below (TAt.below hT hB2) (below_drewN w2.heap.size w2 1)
 have hM2:= hM.same (hB2.block cb hcb)
 go_region_held3 (fun w' => w'.cell? ⟨s, 1, none⟩ = some (.pointer (ptr bb)) /\ w'.cell? ⟨s, 2, none⟩ = some (.map (some cb))) (go_keep)
   (first
   | (go_at_call 32; refine (hbits _).mono ?_; rintro e w3 ⟨rfl, hB3⟩; have hT3:= TAt.below hT2 hB3; have hM3:= hM2.same (w':= w3) (hB3.block cb (by show cb < w2.heap.size; omega)); have e1:= hB3.cell (p:= ⟨s, 1, none⟩) (by show s < w2.heap.size; omega); have e2:= hB3.cell (p:= ⟨s, 2, none⟩) (by show s < w2.heap.size; omega))
   | (go_at_call 31; refine (hget _ hT3).mono ?_; rintro e w4 ⟨rfl, n4, rfl⟩; have hM4 : MapAt Tryz.prog strT (w3.drewN n4) cb n F:= hM3.same rfl))
 have e2' : (w3.drewN n4).cell? ⟨s, 2, none⟩ = some (.map (some cb)):= e2.trans d2
 go_wp2_with (at_delete; refine wpList_delete_map rfl _ _ 71 rfl 70 strKeyed Tryz.underlying71 rfl hM4 _ _ rfl hkey ?_; intro w5 hM5 hgrow)
 go_ret
 exact ⟨rfl, hM5, (((below_grown _ hB2).trans (below_grown _ (below_drewN _ _ 1))).trans ((below_grown _ hB3).trans (below_grown _ (below_drewN _ _ n4)))).trans hgrow⟩
variable {dg : DG}
set_option maxRecDepth 20000 in
set_option maxHeartbeats 8000000 in
theorem delete_old {w : World} {s bb cb vb n : Nat} {wd nw : Int} {F : Lit -> Option Value} {key v v2 KB : ByteArray} {t : T ByteArray} (hS : StoreAt w s wd bb cb vb nw) (hM : MapAt Tryz.prog strT w cb n F) (hn : n < 1000000000000000) (hne : s ≠ cb) (hT : TAt dg w t bb) (hk4 : key.size <= 4)
   (hg : Calls Tryz.prog 8 #[.pointer (some ⟨s, 0, none⟩), .string key] w fun e w' => e = .returned (.tuple #[.string v, .int .i64 0]) /\ Below w.heap.size w w')
   (hbits : ∀ w, Calls Tryz.prog 32 #[.string key] w fun e w' => e = .returned (.string KB) /\ Below w.heap.size w w')
   (hget : ∀ w1, TAt dg w1 t bb -> Calls Tryz.prog 31 #[.pointer (ptr bb), .string KB] w1 fun e w' => e = .returned (.tuple #[.string v2, .bool true]) /\ ∃ n, w' = w1.drewN n) :
   Calls Tryz.prog 17 #[.pointer (some ⟨s, 0, none⟩), .string key] w fun e w' => e = .returned (.int .i64 0) /\ MapAt Tryz.prog strT w' cb (n + 1) (upd F (.string key.data.toList) (some gone)) /\ w.grownBy w' (some cb):= by
 obtain ⟨c0, c1, c2, c3, c4⟩:= hS.cells
 have hs:= hS.lt
 have hcb:= hM.lt
 have hkey:= strKey key (by omega)
 have hsne : some s ≠ some cb:= fun e => hne (Option.some.inj e)
 have hck:= fun w => clone_any key w (by omega)
 go_enter Tryz.func17, Tryz.ntmps17
 go_wp2_with (go_at_call 8; refine hg.mono ?_; rintro e w2 ⟨rfl, hB2⟩)
 have hy2 : w.heap.size <= w2.heap.size:= hB2.size
 have d1 : w2.cell? ⟨s, 1, none⟩ = some (.pointer (ptr bb)):= (hB2.cell (p:= ⟨s, 1, none⟩) hs).trans c1
 have d2 : w2.cell? ⟨s, 2, none⟩ = some (.map (some cb)):= (hB2.cell (p:= ⟨s, 2, none⟩) hs).trans c2
 have d1' : w2.drew.cell? ⟨s, 1, none⟩ = some (.pointer (ptr bb)):= d1
 have d2' : w2.drew.cell? ⟨s, 2, none⟩ = some (.map (some cb)):= d2
 have hT2:= TAt.below (TAt.below hT hB2) (below_drewN w2.heap.size w2 1)
 have hM2:= hM.same (hB2.block cb hcb)
 go_region_held3 (fun w' => w'.cell? ⟨s, 1, none⟩ = some (.pointer (ptr bb)) /\ w'.cell? ⟨s, 2, none⟩ = some (.map (some cb))) (go_keep)
   (first
   | (go_at_call 32; refine (hbits _).mono ?_; rintro e w3 ⟨rfl, hB3⟩; have hT3:= TAt.below hT2 hB3; have hM3:= hM2.same (w':= w3) (hB3.block cb (by show cb < w2.heap.size; omega)); have e1:= hB3.cell (p:= ⟨s, 1, none⟩) (by show s < w2.heap.size; omega); have e2:= hB3.cell (p:= ⟨s, 2, none⟩) (by show s < w2.heap.size; omega))
   | (go_at_call 31; refine (hget _ hT3).mono ?_; rintro e w4 ⟨rfl, n4, rfl⟩; have hM4 : MapAt Tryz.prog strT (w3.drewN n4) cb n F:= hM3.same rfl))
 have hy3 : w2.heap.size <= w3.heap.size:= hB3.size
 have e2' : (w3.drewN n4).cell? ⟨s, 2, none⟩ = some (.map (some cb)):= e2.trans d2
 have e2'' : (w3.drewN n4).drew.cell? ⟨s, 2, none⟩ = some (.map (some cb)):= e2.trans d2
 go_wp2_with fail
 go_region_held3 (fun w' => w'.cell? ⟨s, 2, none⟩ = some (.map (some cb))) (first | go_keep | (rw [hgrow.cell_far ⟨s, 2, none⟩ (by show s < _; omega) hsne]; assumption) | (simp [hgrow.cell_far ⟨s, 2, none⟩ (by show s < _; omega) hsne, *]))
   (first
   | (go_at_call 24; refine (hck _).mono ?_; rintro e w5 ⟨rfl, hB5⟩; have hM5:= hM3.same (w':= w5) (hB5.block cb (by show cb < w3.heap.size; omega)); have e5:= hB5.cell (p:= ⟨s, 2, none⟩) (by show s < w3.heap.size; omega); have hy5 : w3.heap.size <= w5.heap.size:= hB5.size; obtain ⟨w6, hrun, hM6, hgrow⟩:= hM5.update (t:= 71) strKeyed Tryz.underlying71 (by unfold maxLen; omega) gone hkey; unfold gone at hrun; simp only [noText] at hrun))
 go_wp2_with fail
 go_ret
 exact ⟨rfl, hM6, ((((below_grown _ hB2).trans (below_grown _ (below_drewN _ _ 1))).trans ((below_grown _ hB3).trans (below_grown _ (below_drewN _ _ n4)))).trans ((below_grown _ (below_drewN _ _ 1)).trans (below_grown _ hB5))).trans hgrow⟩
set_option maxRecDepth 20000 in
set_option maxHeartbeats 4000000 in
theorem in_there {w : World} {t : T ByteArray} {q : Bits} {v : ByteArray} {b : Nat} (hF : Fits t q) (hT : TAt dg w t b) :
   Calls Tryz.prog 35 #[.agg #[.string v, .bool true], .pointer (ptr b), .string (str q)] w fun e w' => ∃ b', e = .returned (.pointer (ptr b')) /\ TAt dg w' (t.wth q v) b' /\ Below w.heap.size w w':= by
 have hB0 : ∀ o, Below w.heap.size w (w.alloc o):= fun o => (Below.refl _ w).alloc (Nat.le_refl _) _
 have hw:= fun o => with_any (dg:= dg) t q v (w.alloc o) b hF (TAt.below hT (hB0 o))
 go_enter Tryz.func35, Tryz.ntmps35
 go_wp2_with (go_at_call 48; refine (hw _).mono ?_; rintro e w2 ⟨b', rfl, h1, h2⟩)
 go_ret
 exact ⟨b', rfl, h1, below_mono (hB0 _) h2⟩
set_option maxRecDepth 20000 in
set_option maxHeartbeats 4000000 in
theorem in_gone {w : World} {t : T ByteArray} {q : Bits} {b : Nat} (hH : Has t q) (hT : TAt dg w t b) :
   Calls Tryz.prog 35 #[.agg #[.string noText, .bool false], .pointer (ptr b), .string (str q)] w fun e w' => ∃ b', e = .returned (.pointer (ptr b')) /\ TAt dg w' (t.wo q) b' /\ Below w.heap.size w w':= by
 have hB0 : ∀ o, Below w.heap.size w (w.alloc o):= fun o => (Below.refl _ w).alloc (Nat.le_refl _) _
 have hw:= fun o => without_any (dg:= dg) t q (w.alloc o) b hH (TAt.below hT (hB0 o))
 go_enter Tryz.func35, Tryz.ntmps35
 go_wp2_with (go_at_call 49; refine (hw _).mono ?_; rintro e w2 ⟨b', rfl, h1, h2⟩)
 go_ret
 exact ⟨b', rfl, h1, below_mono (hB0 _) h2⟩
variable {dg : DG}
structure Kept (B : Nat -> Prop) (w w' : World) : Prop where
 os : w'.os = w.os
 tape : w'.tape = w.tape
 output : w'.output = w.output
 size : w.heap.size <= w'.heap.size
 block : ∀ k, k < w.heap.size -> ¬ B k -> w'.heap[k]? = w.heap[k]?
theorem Kept.grown {w w' : World} {b : Nat} {B : Nat -> Prop} (h : w.grownBy w' (some b)) (hb : B b) : Kept B w w':= ⟨h.os, h.tape, h.output, h.size, fun k hk hn => h.block k hk (fun e => hn (by cases e; exact hb))⟩
theorem Kept.trans {w w' w'' : World} {B : Nat -> Prop} (h : Kept B w w') (k : Kept B w' w'') : Kept B w w'':= ⟨k.os.trans h.os, k.tape.trans h.tape, k.output.trans h.output, Nat.le_trans h.size k.size, fun i hi hn => (k.block i (Nat.lt_of_lt_of_le hi h.size) hn).trans (h.block i hi hn)⟩
theorem Kept.setCell {w : World} {B : Nat -> Prop} (a : Addr) (u : Value) (ha : B a.block) : Kept B w (w.setCell a u):= by
 refine ⟨rfl, rfl, rfl, by simp [World.setCell], fun k _ hn => Below.heap_setCell _ _ _ _ (fun e => hn (by rw [e]; exact ha))⟩
theorem StoreAt.base {w : World} {s bb cb vb x : Nat} {wd nw : Int} (h : StoreAt w s wd bb cb vb nw) : StoreAt (w.setCell ⟨s, 1, none⟩ (.pointer (ptr x))) s wd x cb vb nw:= by
 have hs:= h.lt
 unfold StoreAt at h ⊢
 simp only [World.setCell, Array.getElem?_modify, if_true, h]
 simp
theorem StoreAt.newest {w : World} {s bb cb vb : Nat} {wd nw nw' : Int} (h : StoreAt w s wd bb cb vb nw) : StoreAt (w.setCell ⟨s, 4, none⟩ (.int .i64 nw')) s wd bb cb vb nw':= by
 have hs:= h.lt
 unfold StoreAt at h ⊢
 simp only [World.setCell, Array.getElem?_modify, if_true, h]
 simp
set_option maxRecDepth 20000 in
set_option maxHeartbeats 4000000 in
theorem begin_any {w : World} {s bb cb vb n x : Nat} {wd nw : Int} {F : Lit -> Option Value} (hS : StoreAt w s wd bb cb vb nw) (hM : MapAt Tryz.prog strT w cb n F) (hne : s ≠ cb) :
   Calls Tryz.prog 38 #[.pointer (some ⟨s, 0, none⟩), .pointer (ptr x)] w fun e w' => e = .returned (.tuple #[]) /\ StoreAt w' s wd x cb vb nw /\ MapAt Tryz.prog strT w' cb 0 (fun _ => none) /\ Kept (fun k => k = s \/ k = cb) w w':= by
 obtain ⟨c0, c1, c2, c3, c4⟩:= hS.cells
 have hs:= hS.lt
 have hfz:= hS.frozen 1
 have hS1:= hS.base (x:= x)
 have hM1:= hM.same (w':= w.setCell ⟨s, 1, none⟩ (.pointer (ptr x))) (Below.heap_setCell _ _ _ _ (fun e => hne e.symm))
 have d2:= hS1.cells.2.2.1
 obtain ⟨w2, hrun, hM2, hgrow⟩:= hM1.wipe (t:= 71) Tryz.underlying71 0
 have hK1 : Kept (fun k => k = s \/ k = cb) w (w.setCell ⟨s, 1, none⟩ (.pointer (ptr x))):= Kept.setCell _ _ (.inl rfl)
 have hK2 : Kept (fun k => k = s \/ k = cb) (w.setCell ⟨s, 1, none⟩ (.pointer (ptr x))) w2:= Kept.grown hgrow (.inr rfl)
 have hz1:= hK1.size
 have hS2:= hS1.same (hgrow.block s (by omega) (fun e => hne (Option.some.inj e)))
 go_enter Tryz.func38, Tryz.ntmps38
 go_wp2_with fail
 exact bodyPost_end (results_none rfl _ _ _) rfl ⟨rfl, hS2, hM2, hK1.trans hK2⟩
set_option maxRecDepth 20000 in
set_option maxHeartbeats 4000000 in
theorem load_yes {w : World} {s bb cb vb n x : Nat} {wd nw i : Int} {F : Lit -> Option Value} (hS : StoreAt w s wd bb cb vb nw) (hM : MapAt Tryz.prog strT w cb n F) (hne : s ≠ cb)
   (hv : Calls Tryz.prog 25 #[.pointer (some ⟨s, 0, none⟩), .int .i64 i] w fun e w' => e = .returned (.tuple #[.pointer (ptr x), .int .i64 0]) /\ w' = w) :
   Calls Tryz.prog 21 #[.pointer (some ⟨s, 0, none⟩), .int .i64 i] w fun e w' => e = .returned (.int .i64 0) /\ StoreAt w' s wd x cb vb nw /\ MapAt Tryz.prog strT w' cb 0 (fun _ => none) /\ Kept (fun k => k = s \/ k = cb) w w':= by
 have hb:= begin_any (x:= x) hS hM hne
 go_enter Tryz.func21, Tryz.ntmps21
 go_wp2_with (first
   | (go_at_call 25; refine hv.mono ?_; rintro e w' ⟨rfl, hw1⟩; have hw2:= hw1.symm; subst hw2; clear hw1)
   | (go_at_call 38; refine hb.mono ?_; rintro e w2 ⟨rfl, k⟩))
 go_ret
 exact ⟨rfl, k⟩
set_option maxRecDepth 20000 in
set_option maxHeartbeats 4000000 in
theorem load_no {w : World} {s : Nat} {i : Int}
   (hv : Calls Tryz.prog 25 #[.pointer (some ⟨s, 0, none⟩), .int .i64 i] w fun e w' => e = .returned (.tuple #[.pointer none, .int .i64 9]) /\ w' = w) :
   Calls Tryz.prog 21 #[.pointer (some ⟨s, 0, none⟩), .int .i64 i] w fun e w' => e = .returned (.int .i64 9) /\ w' = w:= by
 go_enter Tryz.func21, Tryz.ntmps21
 go_wp2_with (go_at_call 25; refine hv.mono ?_; rintro e w' ⟨rfl, hw1⟩; have hw2:= hw1.symm; subst hw2; clear hw1)
 go_ret
 exact ⟨rfl, rfl⟩
set_option maxRecDepth 20000 in
set_option maxHeartbeats 8000000 in
theorem keep_any {w : World} {s bb cb vb n m x : Nat} {wd nw : Int} {F G : Lit -> Option Value} (hS : StoreAt w s wd bb cb vb nw) (hM : MapAt Tryz.prog strT w cb n F) (hV : MapAt Tryz.prog intT w vb m G) (hm : m < 1000000000000000) (h1 : s ≠ cb) (h2 : s ≠ vb) (h3 : cb ≠ vb) (hn0 : 0 <= nw) (hn1 : nw < 1000000000000000) :
   Calls Tryz.prog 36 #[.pointer (some ⟨s, 0, none⟩), .pointer (ptr x)] w fun e w' => e = .returned (.tuple #[]) /\ StoreAt w' s wd x cb vb (nw + 1) /\ MapAt Tryz.prog strT w' cb 0 (fun _ => none) /\ MapAt Tryz.prog intT w' vb (m + 1) (upd G (.int .i64 (nw + 1)) (some (.pointer (ptr x)))) /\ Kept (fun k => k = s \/ k = cb \/ k = vb) w w':= by
 have hb:= begin_any (x:= x) hS hM h1
 have hs:= hS.lt
 have hvb:= hV.lt
 have hwr : IntKind.i64.wrap (nw + 1) = nw + 1:= Go.wrap_small _ (by omega) (by omega)
 have hkey:= intKey (nw + 1) (by omega) (by omega)
 go_enter Tryz.func36, Tryz.ntmps36
 go_wp2_with (go_at_call 38; refine hb.mono ?_; rintro e w2 ⟨rfl, hS2, hM2, hK2⟩; obtain ⟨a0, a1, a2, a3, a4⟩:= hS2.cells; have hfz:= hS2.frozen 4)
 have hV2:= hV.same (hK2.block vb hvb (by rintro (e | e); exact h2 e.symm; exact h3 e.symm))
 have hS3:= hS2.newest (nw':= nw + 1)
 obtain ⟨b0, b1, b2, b3, b4⟩:= hS3.cells
 have hV3:= hV2.same (w':= w2.setCell ⟨s, 4, none⟩ (.int .i64 (nw + 1))) (Below.heap_setCell _ _ _ _ (fun e => h2 e.symm))
 have hM3:= hM2.same (w':= w2.setCell ⟨s, 4, none⟩ (.int .i64 (nw + 1))) (Below.heap_setCell _ _ _ _ (fun e => h1 e.symm))
 have hK3 : Kept (fun k => k = s \/ k = cb \/ k = vb) w2 (w2.setCell ⟨s, 4, none⟩ (.int .i64 (nw + 1))):= Kept.setCell _ _ (.inl rfl)
 have hV4 : MapAt Tryz.prog intT (w2.setCell ⟨s, 4, none⟩ (.int .i64 (nw + 1))).drew vb m G:= hV3.same rfl
 have b3' : (w2.setCell ⟨s, 4, none⟩ (.int .i64 (nw + 1))).drew.cell? ⟨s, 3, none⟩ = some (.map (some vb)):= b3
 have b4' : (w2.setCell ⟨s, 4, none⟩ (.int .i64 (nw + 1))).drew.cell? ⟨s, 4, none⟩ = some (.int .i64 (nw + 1)):= b4
 obtain ⟨w4, hrun, hV5, hgrow⟩:= hV4.update (t:= 72) intKeyed Tryz.underlying72 (by unfold maxLen; omega) (.pointer (ptr x)) hkey
 have hz2 : w.heap.size <= w2.heap.size:= hK2.size
 have hz3 : w2.heap.size <= (w2.setCell ⟨s, 4, none⟩ (.int .i64 (nw + 1))).drew.heap.size:= hK3.size
 have hsne : some s ≠ some vb:= fun e => h2 (Option.some.inj e)
 have f3:= (hgrow.cell_far ⟨s, 3, none⟩ (by show s < _; omega) hsne).trans b3'
 have f4:= (hgrow.cell_far ⟨s, 4, none⟩ (by show s < _; omega) hsne).trans b4'
 go_region_held3 (fun w' => w'.cell? ⟨s, 3, none⟩ = some (.map (some vb)) /\ w'.cell? ⟨s, 4, none⟩ = some (.int .i64 (nw + 1))) (first | go_keep | exact ⟨f3, f4⟩)
   (first | fail)
 have hK4 : Kept (fun k => k = s \/ k = cb \/ k = vb) (w2.setCell ⟨s, 4, none⟩ (.int .i64 (nw + 1))).drew w4:= Kept.grown hgrow (.inr (.inr rfl))
 have hS5:= hS3.same (w':= w4) (hgrow.block s (by omega) hsne)
 have hcb:= hM2.lt
 have hM5:= hM3.same (w':= w4) (hgrow.block cb (by omega) (fun e => h3 (Option.some.inj e)))
 have hK2' : Kept (fun k => k = s \/ k = cb \/ k = vb) w w2:= ⟨hK2.os, hK2.tape, hK2.output, hK2.size, fun k hk hn => hK2.block k hk (by rintro (e | e); exact hn (.inl e); exact hn (.inr (.inl e)))⟩
 have hK34 : Kept (fun k => k = s \/ k = cb \/ k = vb) w2 w4:= ⟨hK4.os.trans hK3.os, hK4.tape.trans hK3.tape, hK4.output.trans hK3.output, Nat.le_trans hK3.size hK4.size, fun k hk hn => (hK4.block k (Nat.lt_of_lt_of_le hk hK3.size) hn).trans (hK3.block k hk hn)⟩
 exact bodyPost_end (results_none rfl _ _ _) rfl ⟨rfl, hS5, hM5, hV5, hK2'.trans hK34⟩
theorem ret_int {k : IntKind} {a b : Int} (h : a = b) : Ending.returned (.int k a) = .returned (.int k b):= by rw [h]
def pickN (c : Int) (n : Nat) : Nat:= (if c < 0 then -(c + 1) else c).toNat % n
theorem pickN_lt (c : Int) (n : Nat) (h : 0 < n) : pickN c n < n:= Nat.mod_lt _ h
theorem pick_any (c : Int) (n : Nat) (w : World) (h0 : -9223372036854775808 <= c) (h1 : c <= 9223372036854775807) (hn : 0 < n) (hn2 : n <= 1000000000000000) :
   Calls Tryz.prog 12 #[.int .i64 c, .int .i64 n] w fun e w' => e = .returned (.int .i64 (pickN c n)) /\ w' = w:= by
 have hz : ((n : Int) == 0) = false:= by simp; omega
 by_cases hc : c < 0
 . have e : (pickN c n : Int) = (-(c + 1)).tmod n:= by
     unfold pickN
     rw [if_pos hc, Int.tmod_eq_emod_of_nonneg (by omega)]
     have h : (((-(c + 1)).toNat : Nat) : Int) = -(c + 1):= by omega
     rw [Int.natCast_emod, h]
   rw [e]
   go_enter Tryz.func12, Tryz.ntmps12
   go_wp2
   go_ret
   exact ⟨ret_int (Int.neg_tmod ..).symm, rfl⟩
 . have e : (pickN c n : Int) = c.tmod n:= by
     unfold pickN
     rw [if_neg hc, Int.tmod_eq_emod_of_nonneg (by omega)]
     have h : (c.toNat : Int) = c:= by omega
     rw [Int.natCast_emod, h]
   rw [e]
   go_enter Tryz.func12, Tryz.ntmps12
   go_wp2
   go_ret
   exact ⟨ret_int (Int.tmod_eq_emod_of_nonneg (by omega)).symm, rfl⟩
def keys20 : List ByteArray:= [⟨#[65]⟩, ⟨#[66]⟩, ⟨#[67]⟩, ⟨#[97]⟩, ⟨#[65, 65]⟩, ⟨#[65, 66]⟩, ⟨#[0]⟩, ⟨#[0, 0]⟩, ⟨#[255]⟩, ⟨#[65, 0]⟩, ⟨#[65, 255]⟩, ⟨#[65, 65, 65]⟩, ⟨#[65, 65, 65, 65]⟩, ⟨#[65, 65, 65, 66]⟩, ⟨#[128]⟩, ⟨#[1]⟩, ⟨#[64]⟩, ⟨#[66, 66]⟩, ⟨#[122, 122]⟩, ⟨#[122]⟩]
def vals6 : List ByteArray:= [⟨#[]⟩, ⟨#[120]⟩, ⟨#[121]⟩, ⟨#[120, 120]⟩, ⟨#[116, 119, 101, 110, 116, 121, 32, 98, 121, 116, 101, 115, 32, 111, 102, 32, 118, 97, 108, 117, 101]⟩, ⟨#[0]⟩]
def keyN (i : Nat) : ByteArray:= keys20.getD i noText
def valN (i : Nat) : ByteArray:= vals6.getD i noText
theorem keyN_size (i : Nat) (h : i < 20) : 1 <= (keyN i).size /\ (keyN i).size <= 4:= by
 have : ∀ i : Fin 20, 1 <= (keyN i).size /\ (keyN i).size <= 4:= by decide
 exact this ⟨i, h⟩
set_option maxRecDepth 20000 in
set_option maxHeartbeats 4000000 in
theorem key_raw (c : Int) (w : World) (i : Nat) (hi : i < 20)
   (hp : ∀ w, Calls Tryz.prog 12 #[.int .i64 c, .int .i64 20] w fun e w' => e = .returned (.int .i64 i) /\ w' = w) :
   Calls Tryz.prog 7 #[.int .i64 c] w fun e w' => e = .returned (.string (keyN i)) /\ Below w.heap.size w w':= by
 have hk : (keys20.map Value.string)[i]? = some (.string (keyN i)):= by
   rw [List.getElem?_map, keyN, List.getD_eq_getElem?_getD, List.getElem?_eq_getElem (show i < keys20.length from hi)]; rfl
 go_enter Tryz.func7, Tryz.ntmps7
 go_wp2_with (go_at_call 12; refine (hp _).mono ?_; rintro e w' ⟨rfl, hw1⟩; have hw2:= hw1.symm; subst hw2; clear hw1)
 go_ret
 refine ⟨?_, (Below.refl _ _).alloc (Nat.le_refl _) _⟩
 have h2:= (List.getElem?_eq_some_iff.1 hk).2
 exact congrArg Ending.returned h2
set_option maxRecDepth 20000 in
set_option maxHeartbeats 4000000 in
theorem value_raw (c : Int) (w : World) (i : Nat) (hi : i < 6)
   (hp : ∀ w, Calls Tryz.prog 12 #[.int .i64 c, .int .i64 6] w fun e w' => e = .returned (.int .i64 i) /\ w' = w) :
   Calls Tryz.prog 15 #[.int .i64 c] w fun e w' => e = .returned (.string (valN i)) /\ Below w.heap.size w w':= by
 have hk : (vals6.map Value.string)[i]? = some (.string (valN i)):= by
   rw [List.getElem?_map, valN, List.getD_eq_getElem?_getD, List.getElem?_eq_getElem (show i < vals6.length from hi)]; rfl
 go_enter Tryz.func15, Tryz.ntmps15
 go_wp2_with (go_at_call 12; refine (hp _).mono ?_; rintro e w' ⟨rfl, hw1⟩; have hw2:= hw1.symm; subst hw2; clear hw1)
 go_ret
 refine ⟨?_, (Below.refl _ _).alloc (Nat.le_refl _) _⟩
 have h2:= (List.getElem?_eq_some_iff.1 hk).2
 exact congrArg Ending.returned h2
theorem keyL_any (c : Int) (w : World) (h0 : -9223372036854775808 <= c) (h1 : c <= 9223372036854775807) :
   Calls Tryz.prog 7 #[.int .i64 c] w fun e w' => e = .returned (.string (keyN (pickN c 20))) /\ Below w.heap.size w w' :=
 key_raw c w _ (pickN_lt c 20 (by decide)) fun w => pick_any c 20 w h0 h1 (by decide) (by decide)
theorem valueL_any (c : Int) (w : World) (h0 : -9223372036854775808 <= c) (h1 : c <= 9223372036854775807) :
   Calls Tryz.prog 15 #[.int .i64 c] w fun e w' => e = .returned (.string (valN (pickN c 6))) /\ Below w.heap.size w w' :=
 value_raw c w _ (pickN_lt c 6 (by decide)) fun w => pick_any c 6 w h0 h1 (by decide) (by decide)
variable {dg : DG}
set_option maxRecDepth 20000 in
set_option maxHeartbeats 8000000 in
theorem set_long {w : World} {s : Nat} {key v : ByteArray} (hk1 : 1 <= key.size) (hk4 : key.size <= 4) (hv : 20 < v.size) :
   Calls Tryz.prog 14 #[.pointer (some ⟨s, 0, none⟩), .string key, .string v] w fun e w' => e = .returned (.int .i64 6) /\ w' = w:= by
 have hkb:= fun w => keyIn_any (key.size : Int) w
 rw [decide_eq_true (show (1 : Int) <= (key.size : Int) /\ (key.size : Int) <= 4 from ⟨by omega, by omega⟩)] at hkb
 have hvb:= fun w => lengthIn_any (v.size : Int) w
 rw [decide_eq_false (show ¬ ((0 : Int) <= (v.size : Int) /\ (v.size : Int) <= 20) by omega)] at hvb
 go_enter Tryz.func14, Tryz.ntmps14
 go_wp2_with (first
   | (go_at_call 22; refine (hkb _).mono ?_; rintro e w' ⟨rfl, hw1⟩; have hw2:= hw1.symm; subst hw2; clear hw1)
   | (go_at_call 30; refine (hvb _).mono ?_; rintro e w' ⟨rfl, hw1⟩; have hw2:= hw1.symm; subst hw2; clear hw1))
 go_ret
 exact ⟨rfl, rfl⟩
def PRow (w : World) (v : Value) (ps : List (ByteArray × ByteArray)) : Prop :=
 ∃ p cap, v = .slice p ps.length cap /\ ∀ (i : Nat) (h : i < ps.length), ∃ a, p = some a /\ w.cell? (a.add (i * 2)) = some (.string ps[i].1) /\ w.cell? ⟨(a.add (i * 2)).block, (a.add (i * 2)).off + 1, none⟩ = some (.string ps[i].2)
theorem prCs_get (ps : List (ByteArray × ByteArray)) : ∀ (j : Nat) (h : j < ps.length), (prCs ps)[j * 2]? = some (.string ps[j].1) /\ (prCs ps)[j * 2 + 1]? = some (.string ps[j].2):= by
 induction ps with
 | nil => intro j h; exact absurd h (Nat.not_lt_zero _)
 | cons u us ih =>
   intro j h
   have e : prCs (u :: us) = .string u.1 :: .string u.2 :: prCs us:= by simp [prCs, prC]
   rw [e]
   cases j with
   | zero => exact ⟨rfl, rfl⟩
   | succ j =>
     have:= ih j (by simpa using h)
     rw [show (j + 1) * 2 = j * 2 + 1 + 1 from by omega]
     simpa using this
theorem OwnP.row {base : Nat} {w : World} {v : Value} {ps : List (ByteArray × ByteArray)} (h : OwnP base w v ps) : PRow w v ps:= by
 obtain ⟨h1, ⟨rfl, h2⟩ | ⟨g, cap, cur, rfl, hg, hh, hn, hm, hc, ht⟩⟩:= h
 . have : ps = []:= List.length_eq_zero_iff.1 h2
   subst this
   exact ⟨none, 0, rfl, fun i hi => absurd hi (Nat.not_lt_zero _)⟩
 . refine ⟨_, cap, rfl, fun i hi => ⟨_, rfl, ?_⟩⟩
   have ea : (⟨g, 0, none⟩ : Addr).add (i * 2) = ⟨g, i * 2, none⟩:= by
     unfold Addr.add
     by_cases h0 : i * 2 = 0
     . rw [if_pos h0, h0]
     . rw [if_neg h0]; simp
   rw [ea]
   obtain ⟨p1, p2⟩:= prCs_get ps i hi
   rw [<- ht, List.getElem?_take] at p1 p2
   rw [if_pos (by omega)] at p1
   rw [if_pos (by omega)] at p2
   rw [Array.getElem?_toList] at p1 p2
   exact ⟨by simp [World.cell?, hh, p1], by simp [World.cell?, hh, p2]⟩
theorem PRow.same {w w' : World} {v : Value} {ps : List (ByteArray × ByteArray)} (h : PRow w v ps) (k : ∀ a x, w.cell? a = some x -> w'.cell? a = some x) : PRow w' v ps:= by
 obtain ⟨p, cap, rfl, hc⟩:= h
 exact ⟨p, cap, rfl, fun i hi => by obtain ⟨a, ha, h0, h1⟩:= hc i hi; exact ⟨a, ha, k _ _ h0, k _ _ h1⟩⟩
def phas (k : ByteArray) : List (ByteArray × ByteArray) -> Option ByteArray
 | [] => none
 | x :: l => if x.1 = k then some x.2 else phas k l
theorem phas_skip (k : ByteArray) (ps : List (ByteArray × ByteArray)) : ∀ (j : Nat), (∀ i (h : i < ps.length), i < j -> ps[i].1 ≠ k) -> phas k ps = phas k (ps.drop j):= by
 induction ps with
 | nil => intro j _; simp
 | cons x l ih =>
   intro j h
   cases j with
   | zero => rfl
   | succ j =>
     have h0:= h 0 (by simp) (by omega)
     simp only [List.getElem_cons_zero] at h0
     show (if x.1 = k then some x.2 else phas k l) = _
     rw [if_neg h0, ih j (fun i hi hj => by have:= h (i + 1) (by simpa using hi) (by omega); simpa using this)]
     rfl
set_option maxRecDepth 20000 in
set_option maxHeartbeats 4000000 in
theorem has_any {w : World} {v : Value} {ps : List (ByteArray × ByteArray)} {k : ByteArray} (hr : PRow w v ps) (hl : ps.length <= 100000) :
   Calls Tryz.prog 6 #[v, .string k] w fun e w' => e = .returned (gotten (phas k ps)) /\ w' = w:= by
 obtain ⟨p, cap, rfl, hc⟩:= hr
 go_enter Tryz.func6, Tryz.ntmps6
 go_wp2_with fail
 go_loopw [6] (fun i wr => ∃ j : Nat, j <= ps.length /\ i = .int .i64 j /\ (∀ i (h : i < ps.length), i < j -> ps[i].1 ≠ k) /\ wr = w) (fun i _ => (ps.length - intOf i).toNat)
 case atStart => exact ⟨0, by omega, rfl, fun i _ h => absurd h (Nat.not_lt_zero _), rfl⟩
 case round =>
   obtain ⟨j, hj, rfl, hsk, hw⟩:= hrel
   have hw2:= hw.symm
   subst hw2
   clear hw
   have hps:= phas_skip k ps j hsk
   have HS : Hid _:= hsk
   clear hsk
   by_cases hjn : j < ps.length
   . obtain ⟨a, rfl, h0, h1⟩:= hc j hjn
     rw [List.drop_eq_getElem_cons hjn] at hps
     by_cases he : ps[j].1 = k
     . have hl2 : (ps[j].1.toList == k.toList) = true:= by rw [he]; exact beq_self_eq_true _
       have hph : phas k ps = some ps[j].2:= by rw [hps]; simp [phas, he]
       generalize ps[j].2 = y at h1 hph
       generalize ps[j].1 = x at h0 hl2
       clear hc hps he
       go_wp2_with fail
       exact bodyPost_ret (v:= .tuple #[.string y, .bool true]) (by simp [results, Tryz.results6, go_sem]; try rfl) rfl ⟨by rw [hph]; rfl, rfl⟩
     . have hl2 : (ps[j].1.toList == k.toList) = false:= by
         rw [Lib.toList_data, Lib.toList_data]
         exact beq_eq_false_iff_ne.2 fun e => he (bytes_ext e)
       have HE : Hid (∀ i (h : i < ps.length), i < j + 1 -> ps[i].1 ≠ k):= fun i h hi => by
         rcases Nat.lt_succ_iff_lt_or_eq.1 hi with h' | rfl
         . exact HS.out i h h'
         . exact he
       generalize ps[j].1 = x at h0 hl2
       clear hc hps he
       go_wp2_with fail
       go_roundw
       case rel => exact ⟨j + 1, by omega, by go_num, HE.out, trivial⟩
       case measure => simp [intOf]; omega
   . obtain rfl : j = ps.length:= by omega
     have hph : phas k ps = none:= by rw [hps]; simp [phas]
     clear hc hps
     go_wp2_with fail
     exact bodyPost_ret (v:= .tuple #[.string noText, .bool false]) (by simp [results, Tryz.results6, go_sem]; try rfl) rfl ⟨by rw [hph]; rfl, rfl⟩
def pwo (k : ByteArray) (ps : List (ByteArray × ByteArray)) : List (ByteArray × ByteArray):= ps.filter fun x => decide (x.1 ≠ k)
theorem pwo_le (k : ByteArray) (ps : List (ByteArray × ByteArray)) : (pwo k ps).length <= ps.length:= List.length_filter_le _ _
set_option maxRecDepth 20000 in
set_option maxHeartbeats 8000000 in
theorem without_row {w : World} {v : Value} {ps : List (ByteArray × ByteArray)} {k : ByteArray} (hr : PRow w v ps) (hl : ps.length <= 100000) :
   Calls Tryz.prog 18 #[v, .string k] w fun e w' => ∃ v', e = .returned v' /\ OwnP w.heap.size w' v' (pwo k ps) /\ Below w.heap.size w w':= by
 obtain ⟨i0, hi, hz0, hz1, hz2⟩:= info_parts pinfo
 obtain ⟨p, cap, rfl, hc⟩:= hr
 have hc' : ∀ (i : Nat) (h : i < ps.length), ∃ a, p = some a /\ (w.cell? (a.add (i * 2)) = some (.string ps[i].1) /\ (a.add (i * 2)).block < w.heap.size) /\ w.cell? ⟨(a.add (i * 2)).block, (a.add (i * 2)).off + 1, none⟩ = some (.string ps[i].2):= fun i h => by
   obtain ⟨a, h1, h2, h3⟩:= hc i h
   exact ⟨a, h1, ⟨h2, Tw.cell_lt h2⟩, h3⟩
 clear hc
 obtain ⟨base, hbase⟩ : ∃ x, x = w.heap.size:= ⟨_, rfl⟩
 rw [<- hbase]
 have hB0 : Below base w w:= Below.refl _ w
 have hbb : base <= w.heap.size:= by omega
 rw [<- hbase] at hc'
 have HBs : Hid (base = w.heap.size):= hbase
 clear hbase
 go_enter Tryz.func18, Tryz.ntmps18
 go_wp2_with fail
 go_loopw [5, 6] (fun u i wr => ∃ j : Nat, j <= ps.length /\ i = .int .i64 j /\ OwnP base wr u (pwo k (ps.take j)) /\ Below base w wr /\ base <= wr.heap.size) (fun _ i _ => (ps.length - intOf i).toNat)
 case atStart => exact ⟨0, by omega, rfl, OwnP.nil _ _, hB0, hbb⟩
 case round =>
   obtain ⟨j, hj, rfl, hO, hB, hbr⟩:= hrel
   by_cases hjn : j < ps.length
   . obtain ⟨a, rfl, ⟨h0, hab⟩, h1⟩:= hc' j hjn
     have g0 : wr.cell? (a.add (j * 2)) = some (.string ps[j].1):= (hB.cell hab).trans h0
     have g1 : wr.cell? ⟨(a.add (j * 2)).block, (a.add (j * 2)).off + 1, none⟩ = some (.string ps[j].2):= (hB.cell (p:= ⟨(a.add (j * 2)).block, (a.add (j * 2)).off + 1, none⟩) hab).trans h1
     have htk : pwo k (ps.take (j + 1)) = pwo k (ps.take j) ++ (if ps[j].1 = k then [] else [ps[j]]):= by
       rw [List.take_add_one, List.getElem?_eq_getElem hjn]
       unfold pwo
       rw [Option.toList_some, List.filter_append]
       by_cases e : ps[j].1 = k <;> simp [e]
     have hlen : (pwo k (ps.take j)).length <= 100000:= by
       have:= pwo_le k (ps.take j)
       rw [List.length_take] at this; omega
     by_cases he : ps[j].1 = k
     . have hl2 : (ps[j].1.toList == k.toList) = true:= by rw [he]; exact beq_self_eq_true _
       rw [if_pos he, List.append_nil] at htk
       have HT : Hid _:= htk
       generalize ps[j].1 = x at g0 hl2
       clear hc' he htk h0 h1
       go_wp2_with fail
       go_roundw
       case rel => exact ⟨j + 1, by omega, by go_num, by rw [HT.out]; exact hO, hB, hbr⟩
       case measure => simp [intOf]; omega
     . have hl2 : (ps[j].1.toList == k.toList) = false:= by
         rw [Lib.toList_data, Lib.toList_data]
         exact beq_eq_false_iff_ne.2 fun e => he (bytes_ext e)
       rw [if_neg he] at htk
       generalize hL : pwo k (ps.take j) = L at hO htk hlen
       obtain ⟨z, hz⟩ : ∃ z, z = ps[j]:= ⟨_, rfl⟩
       rw [<- hz] at htk g0 g1 hl2
       have HT : Hid _:= htk
       obtain ⟨x, y⟩:= z
       simp only at g0 g1 hl2
       clear hc' he htk h0 h1 hz hL
       unfold OwnP at hO
       have hbk:= OwnP.block hO
       go_wp2_with (at_builtin; refine wpList_append_own _ rfl (.tmp 20) (.tmp 25) 31 rfl base 51 i0 _ 2 32 Tryz.underlying31 hi hz0 hz1 hz2 rfl (by decide) _ _ _ rfl (hO.alloc _) ⟨wr.heap.size, 0, none⟩ 1 1 _ rfl rfl (World.news_of_block (heap_alloc_new wr _)) ?c2 ?c3 ?c4 ?c5 ?_)
       case c2 => exact ⟨rfl, rfl⟩
       case c3 => unfold maxLen; omega
       case c4 => omega
       case c5 => simp; omega
       . intro v' w1 hown1 hgrow _
         have hO2 : OwnP base w1 v' (L ++ [(x, y)]):= by
           unfold OwnP; rw [prCs_snoc, List.length_append]; exact hown1
         have hB2:= (hB.alloc hbr _).grown hgrow (by simp; omega) hbk
         have hb2 : base <= w1.heap.size:= by have:= hB2.size; rw [HBs.out]; exact this
         clear hown1 hgrow hO hB hbk
         go_wp2_with fail
         go_roundw
         case rel => exact ⟨j + 1, by omega, by go_num, by rw [HT.out]; exact hO2, hB2, hb2⟩
         case measure => simp [intOf]; omega
   . obtain rfl : j = ps.length:= by omega
     rw [List.take_length] at hO
     clear hc'
     go_wp2_with fail
     go_ret
     exact ⟨_, rfl, hO, hB⟩
set_option maxRecDepth 20000 in
set_option maxHeartbeats 8000000 in
theorem same_raw {w : World} {pa pb : Option Addr} {ca cb n : Nat} {f g : Nat -> ByteArray × ByteArray} {r : Bool} (hn : n <= 100000) (hr : r = true ↔ ∀ i, i < n -> f i = g i)
   (ha : ∀ i, i < n -> ∃ a, pa = some a /\ w.cell? (a.add (i * 2)) = some (.string (f i).1) /\ w.cell? ⟨(a.add (i * 2)).block, (a.add (i * 2)).off + 1, none⟩ = some (.string (f i).2))
   (hb : ∀ i, i < n -> ∃ a, pb = some a /\ w.cell? (a.add (i * 2)) = some (.string (g i).1) /\ w.cell? ⟨(a.add (i * 2)).block, (a.add (i * 2)).off + 1, none⟩ = some (.string (g i).2)) :
   Calls Tryz.prog 11 #[.slice pa n ca, .slice pb n cb] w fun e w' => e = .returned (.bool r) /\ ∃ n, w' = w.drewN n:= by
 have HR : Hid _:= hr
 clear hr
 go_enter Tryz.func11, Tryz.ntmps11
 go_wp2_with fail
 go_loopw [5] (fun i wr => ∃ j : Nat, j <= n /\ i = .int .i64 j /\ (∀ i, i < j -> f i = g i) /\ ∃ n, wr = w.drewN n) (fun i _ => (n - intOf i).toNat)
 case atStart => exact ⟨0, by omega, rfl, fun i h => absurd h (Nat.not_lt_zero _), 0, rfl⟩
 case round =>
   obtain ⟨j, hj, rfl, htk, d, rfl⟩:= hrel
   have HK : Hid _:= htk
   clear htk
   by_cases hjn : j < n
   . obtain ⟨a, rfl, ha0, ha1⟩:= ha j hjn
     obtain ⟨b, rfl, hb0, hb1⟩:= hb j hjn
     clear ha hb
     by_cases he : f j = g j
     . have HN : Hid (∀ i, i < j + 1 -> f i = g i):= fun i h => by
         rcases Nat.lt_succ_iff_lt_or_eq.1 h with h' | rfl
         . exact HK.out i h'
         . exact he
       rw [<- he] at hb0 hb1
       have q1 : ((f j).1.toList == (f j).1.toList) = true:= beq_self_eq_true _
       have q2 : ((f j).2.toList == (f j).2.toList) = true:= beq_self_eq_true _
       generalize f j = u at ha0 ha1 hb0 hb1 q1 q2
       clear he
       go_wp2_with fail
       go_quiet (fail)
       go_wp2_with fail
       go_roundw
       case rel => exact ⟨j + 1, by omega, by go_num, HN.out, _, rfl⟩
       case measure => simp [intOf]; omega
     . have hrf : r = false:= by
         cases h : r with
         | false => rfl
         | true => exact absurd (HR.out.1 h j hjn) he
       subst hrf
       have q : ((f j).1.toList == (g j).1.toList) = false \/ (((f j).1.toList == (g j).1.toList) = true /\ ((f j).2.toList == (g j).2.toList) = false):= by
         rw [Lib.toList_data, Lib.toList_data, Lib.toList_data, Lib.toList_data]
         cases h1 : ((f j).1.data.toList == (g j).1.data.toList) with
         | false => exact .inl rfl
         | true =>
           refine .inr ⟨rfl, ?_⟩
           cases h2 : ((f j).2.data.toList == (g j).2.data.toList) with
           | false => rfl
           | true => exact absurd (Prod.ext (bytes_ext (beq_iff_eq.1 h1)) (bytes_ext (beq_iff_eq.1 h2))) he
       generalize f j = u at ha0 ha1 q
       generalize g j = z at hb0 hb1 q
       clear he
       rcases q with q | ⟨q, q2⟩
       . skip
         go_wp2_with fail
         go_quiet (fail)
         go_wp2_with fail
         go_ret
         exact ⟨rfl, _, World.drewN_drewN _ _ _⟩
       . skip
         go_wp2_with fail
         go_quiet (fail)
         go_wp2_with fail
         go_ret
         exact ⟨rfl, _, World.drewN_drewN _ _ _⟩
   . obtain rfl : j = n:= by omega
     have hrt : r = true:= HR.out.2 HK.out
     subst hrt
     clear ha hb
     go_wp2_with fail
     go_ret
     exact ⟨rfl, _, rfl⟩
set_option maxRecDepth 20000 in
set_option maxHeartbeats 8000000 in
theorem same_len {w : World} {pa pb : Option Addr} {ca cb n m : Nat} (hne : n ≠ m) :
   Calls Tryz.prog 11 #[.slice pa n ca, .slice pb m cb] w fun e w' => e = .returned (.bool false) /\ ∃ n, w' = w.drewN n:= by
 have hi1 : ((n : Int) != (m : Int)) = true:= by simp; omega
 go_enter Tryz.func11, Tryz.ntmps11
 go_wp2_with fail
 go_ret
 exact ⟨rfl, 0, rfl⟩
theorem same_any {w : World} {va vb : Value} {ps qs : List (ByteArray × ByteArray)} (ha : PRow w va ps) (hb : PRow w vb qs) (hl : ps.length <= 100000) :
   Calls Tryz.prog 11 #[va, vb] w fun e w' => e = .returned (.bool (decide (ps = qs))) /\ ∃ n, w' = w.drewN n:= by
 obtain ⟨pa, ca, rfl, ha⟩:= ha
 obtain ⟨pb, cb, rfl, hb⟩:= hb
 by_cases hlen : ps.length = qs.length
 . have hr : decide (ps = qs) = true ↔ ∀ i, i < ps.length -> ps.getD i (noText, noText) = qs.getD i (noText, noText):= by
     rw [decide_eq_true_iff]
     constructor
     . rintro rfl i _; rfl
     . intro h
       refine List.ext_getElem hlen fun i h1 h2 => ?_
       have:= h i h1
       rw [List.getD_eq_getElem?_getD, List.getD_eq_getElem?_getD, List.getElem?_eq_getElem h1, List.getElem?_eq_getElem h2] at this
       exact this
   rw [<- hlen]
   refine same_raw hl hr (fun i h => ?_) (fun i h => ?_)
   . obtain ⟨a, h1, h2, h3⟩:= ha i h
     rw [List.getD_eq_getElem?_getD, List.getElem?_eq_getElem h]
     exact ⟨a, h1, h2, h3⟩
   . obtain ⟨a, h1, h2, h3⟩:= hb i (hlen ▸ h)
     rw [List.getD_eq_getElem?_getD, List.getElem?_eq_getElem (hlen ▸ h)]
     exact ⟨a, h1, h2, h3⟩
 . rw [decide_eq_false (fun e => hlen (by rw [e]))]
   exact same_len hlen
end Go.Proofs.YtddcbeeldjjmeaaGreat
