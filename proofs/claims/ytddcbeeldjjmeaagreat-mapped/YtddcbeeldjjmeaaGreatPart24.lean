/- TREES IN MEMORY, made alone: leaves, branches, moved. -/
import Derived.Test.YtddcbeeldjjmeaaGreatProg
import Derived.Test.YtddcbeeldjjmeaaGreatPart9
import Derived.Handy
import Derived.BigQuiet
import Derived.Test.YtddcbeeldjjmeaaGreatPart11
import Derived.Deep.RegionHeld3
import Derived.RegionTactic
import Derived.Lib.MinMax
namespace Go.Proofs.YtddcbeeldjjmeaaGreat
open Go Go.RowKit Go.Nest Go.Tm
set_option linter.unusedVariables false
set_option linter.unusedSimpArgs false
theorem leaf_any (p v : ByteArray) (w : World) :
   Calls Tryz.prog 58 #[.string p, .string v] w fun e w' => ∃ b, e = .returned (.pointer (ptr b)) /\ NodeAt 89 w' b 0 p v none none 0 false /\ Below w.heap.size w w':= by
 go_enter Tryz.func58, Tryz.ntmps58
 go_wp2
 go_ret
 exact ⟨w.heap.size, rfl, ⟨(0, 0), heap_alloc_new w _⟩, (Below.refl _ _).alloc (Nat.le_refl _) _⟩
theorem empty_any (w : World) :
   Calls Tryz.prog 43 #[] w fun e w' => ∃ b, e = .returned (.pointer (ptr b)) /\ NodeAt 89 w' b 2 noText noText none none 0 false /\ Below w.heap.size w w':= by
 go_enter Tryz.func43, Tryz.ntmps43
 go_wp2
 go_ret
 exact ⟨w.heap.size, rfl, ⟨(0, 0), heap_alloc_new w _⟩, (Below.refl _ _).alloc (Nat.le_refl _) _⟩
def bit (s : Bool) : Int:= if s then 1 else 0
def pick (s : Bool) (x y : Nat) : Nat:= if s then y else x
set_option maxHeartbeats 1000000 in
theorem branch_any (p : ByteArray) (s : Bool) (x y : Nat) (w : World) :
   Calls Tryz.prog 60 #[.string p, .int .i64 (bit s), .pointer (ptr x), .pointer (ptr y)] w fun e w' => ∃ b, e = .returned (.pointer (ptr b)) /\ NodeAt 89 w' b 1 p noText (ptr (pick s x y)) (ptr (pick s y x)) 0 false /\ Below w.heap.size w w':= by
 simp only [ptr]
 cases s
 . simp only [bit, pick, Bool.false_eq_true, if_false]
   go_enter Tryz.func60, Tryz.ntmps60
   go_wp2
   go_region
   go_wp2
   go_ret
   refine ⟨w.heap.size, rfl, ⟨(0, 0), ?_⟩, ?_⟩
   . exact heap_alloc_new w _
   . exact ((Below.refl _ _).alloc (Nat.le_refl _) _).drew
 . simp only [bit, pick, if_true]
   go_enter Tryz.func60, Tryz.ntmps60
   go_wp2
   go_region
   go_wp2
   go_ret
   refine ⟨w.heap.size, rfl, ⟨(0, 0), ?_⟩, ?_⟩
   . exact heap_alloc_new w _
   . exact ((Below.refl _ _).alloc (Nat.le_refl _) _).drew
theorem sideOf_any (s : Bool) (p : Bits) (w : World) :
   Calls Tryz.prog 61 #[.string (str (s :: p))] w fun e w' => e = .returned (.int .i64 (bit s)) /\ ∃ n, w' = w.drewN n:= by
 obtain ⟨t, ht⟩ : ∃ t, t = str (s :: p):= ⟨_, rfl⟩
 have h0 : 0 < t.size:= by rw [ht, str_size]; simp
 have hc : t[0].toNat = 48 + s.toNat:= by subst ht; rw [str_head, sg_nat]
 rw [<- ht]
 clear ht
 go_enter Tryz.func61, Tryz.ntmps61
 go_wp2
 go_quiet (fail)
 go_wp2
 go_ret
 refine ⟨?_, _, rfl⟩
 have e48 : ((({ data:= #[48, 49] } : ByteArray)[0]'(by decide)).toNat : Int) = 48:= rfl
 cases s <;> simp [hc, bit, e48]
theorem sign_any (s : Bool) (w : World) :
   Calls Tryz.prog 52 #[.int .i64 (bit s)] w fun e w' => e = .returned (.string (str [s])) /\ w' = w:= by
 cases s
 . simp only [bit, Bool.false_eq_true, if_false]
   go_enter Tryz.func52, Tryz.ntmps52
   go_wp2
   go_ret
   exact ⟨rfl, rfl⟩
 . simp only [bit, if_true]
   go_enter Tryz.func52, Tryz.ntmps52
   go_wp2
   go_ret
   exact ⟨rfl, rfl⟩
theorem NodeAt.lt {nt : TypeId} {w : World} {b : Nat} {kind : Int} {p v : ByteArray} {l r : Option Addr} {d : Int} {s : Bool} (h : NodeAt nt w b kind p v l r d s) : b < w.heap.size:= by
 obtain ⟨fr, h⟩:= h
 exact (Array.getElem?_eq_some_iff.1 h).1
theorem NodeAt.cells {nt : TypeId} {w : World} {b : Nat} {kind : Int} {p v : ByteArray} {l r : Option Addr} {d : Int} {s : Bool} (h : NodeAt nt w b kind p v l r d s) :
   w.cell? ⟨b, 0, none⟩ = some (.int .i64 kind) /\ w.cell? ⟨b, 1, none⟩ = some (.string p) /\ w.cell? ⟨b, 2, none⟩ = some (.string v) /\ w.cell? ⟨b, 3, none⟩ = some (.pointer l) /\ w.cell? ⟨b, 4, none⟩ = some (.pointer r) /\ w.cell? ⟨b, 5, none⟩ = some (.int .i64 d):= by
 obtain ⟨fr, h⟩:= h
 refine ⟨?_, ?_, ?_, ?_, ?_, ?_⟩ <;> simp [World.cell?, h, nodeCells]
theorem NodeAt.below {nt : TypeId} {w w' : World} {b : Nat} {kind : Int} {p v : ByteArray} {l r : Option Addr} {d : Int} {s : Bool} (h : NodeAt nt w b kind p v l r d s) (B : Below w.heap.size w w') : NodeAt nt w' b kind p v l r d s:= by
 have hlt:= NodeAt.lt h
 obtain ⟨fr, h⟩:= h
 exact ⟨fr, by rw [B.block b hlt]; exact h⟩
theorem share_bytes {p q : Bits} {s1 s2 : ByteArray} {c : Nat} (h1 : s1 = str p) (h2 : s2 = str q) (hc : c = share p q) : c <= s1.size /\ c <= s2.size /\ (∀ k, k < c -> ∀ (a : k < s1.size) (b : k < s2.size), s1[k] = s2[k]) /\ ∀ (a : c < s1.size) (b : c < s2.size), s1[c] ≠ s2[c]:= by
 subst h1 h2
 refine ⟨by rw [str_size, hc]; exact (share_le p q).1, by rw [str_size, hc]; exact (share_le p q).2, fun k hk a b => ?_, fun k1 k2 e => ?_⟩
 . rw [str_get, str_get]
   have:= share_same p q k (hc ▸ hk)
   rw [str_size] at a b
   rw [List.getElem?_eq_getElem a, List.getElem?_eq_getElem b] at this
   rw [Option.some.inj this]
 . rw [str_get, str_get] at e
   rw [str_size] at k1 k2
   have:= share_stop p q (hc ▸ k1) (hc ▸ k2)
   rw [<- hc, List.getElem?_eq_getElem k1, List.getElem?_eq_getElem k2] at this
   exact this (congrArg some (sg_inj e))
set_option maxHeartbeats 2000000 in
theorem shared_any (p q : Bits) (w : World) (hp : q.length <= 1000) :
   Calls Tryz.prog 59 #[.string (str p), .string (str q)] w fun e w' => e = .returned (.int .i64 (share p q)) /\ ∃ n, w' = w.drewN n:= by
 obtain ⟨s1, h1⟩ : ∃ t, t = str p:= ⟨_, rfl⟩
 obtain ⟨s2, h2⟩ : ∃ t, t = str q:= ⟨_, rfl⟩
 obtain ⟨c, hc⟩ : ∃ c, c = share p q:= ⟨_, rfl⟩
 obtain ⟨hle1, hle2, hsame, hstop⟩:= share_bytes h1 h2 hc
 have hc1 : c <= 1000:= by have:= (share_le p q).2; omega
 rw [<- h1, <- h2, <- hc]
 clear h1 h2 hc
 go_enter Tryz.func59, Tryz.ntmps59
 go_wp2
 go_loopw [5] (fun i wr => ∃ k n : Nat, k <= c /\ i = .int .i64 k /\ wr = w.drewN n) (fun i _ => c - (intOf i).toNat)
 case atStart => exact ⟨0, 0, Nat.zero_le _, rfl, rfl⟩
 case round =>
   obtain ⟨k, n, hk, rfl, rfl⟩:= hrel
   by_cases hlt : k < c
   . have k1 : k < s1.size:= by omega
     have k2 : k < s2.size:= by omega
     have e:= hsame k hlt k1 k2
     have e' : s1[k].toNat = s2[k].toNat:= by rw [e]
     have hd : decide ((k : Int) < min (s1.size : Int) (s2.size : Int)) = true:= decide_eq_true (by omega)
     go_wp2
     go_quiet (fail)
     go_wp2
     go_roundw
     case rel => exact ⟨k + 1, _, by omega, by go_num, rfl⟩
     case measure => simp [intOf]; omega
   . obtain rfl : k = c:= by omega
     by_cases hk2 : k < s1.size /\ k < s2.size
     . obtain ⟨k1, k2⟩:= hk2
       have e:= hstop k1 k2
       have e' : ¬ s1[k].toNat = s2[k].toNat:= fun h => e (UInt8.toNat_inj.1 h)
       have hd : decide ((k : Int) < min (s1.size : Int) (s2.size : Int)) = true:= decide_eq_true (by omega)
       go_wp2
       go_quiet (fail)
       go_wp2
       go_ret
       exact ⟨rfl, _, World.drewN_drewN _ _ _⟩
     . have hd : decide ((k : Int) < min (s1.size : Int) (s2.size : Int)) = false:= decide_eq_false (by omega)
       go_wp2
       go_quiet (fail)
       go_wp2
       go_ret
       exact ⟨rfl, _, World.drewN_drewN _ _ _⟩
abbrev ndT : TypeId:= 89
abbrev DG:= Int -> ByteArray -> ByteArray -> Int -> Int -> Int
def All : Nat -> Prop:= fun _ => True
theorem sd_below {dg : DG} {w w' : World} (B : Below w.heap.size w w') : ∀ {t : Tr} {b : Nat}, Sd ndT dg All w t b -> Sd ndT dg All w' t b
 | .branch _ _ _, _, ⟨h1, bl, br, h2, h3, h4⟩ => ⟨h1, bl, br, NodeAt.below h2 B, sd_below B h3, sd_below B h4⟩
 | .empty, _, ⟨h1, h2⟩ => ⟨h1, NodeAt.below h2 B⟩
 | .leaf _ _, _, ⟨h1, h2⟩ => ⟨h1, NodeAt.below h2 B⟩
theorem nd_below {dg : DG} {w w' : World} (B : Below w.heap.size w w') : ∀ {t : Tr} {b : Nat}, Nd ndT dg All w t b -> Nd ndT dg All w' t b
 | .branch _ _ _, _, ⟨h1, bl, br, d, s, h2, h3, h4, h5⟩ => ⟨h1, bl, br, d, s, NodeAt.below h2 B, nd_below B h3, nd_below B h4, fun x => ⟨(h5 x).1, sd_below B (h5 x).2.1, sd_below B (h5 x).2.2⟩⟩
 | .empty, _, ⟨h1, d, s, h2, h3⟩ => ⟨h1, d, s, NodeAt.below h2 B, h3⟩
 | .leaf _ _, _, ⟨h1, d, s, h2, h3⟩ => ⟨h1, d, s, NodeAt.below h2 B, h3⟩
theorem nd_lt {dg : DG} {w : World} : ∀ {t : Tr} {b : Nat}, Nd ndT dg All w t b -> b < w.heap.size
 | .branch _ _ _, _, ⟨_, _, _, _, _, h, _⟩ => NodeAt.lt h
 | .empty, _, ⟨_, _, _, h, _⟩ => NodeAt.lt h
 | .leaf _ _, _, ⟨_, _, _, h, _⟩ => NodeAt.lt h
theorem below_mono {w w' w'' : World} (h : Below w.heap.size w w') (k : Below w'.heap.size w' w'') : Below w.heap.size w w'':= h.trans (k.mono h.size)
def TAt (dg : DG) (w : World) (t : T ByteArray) (b : Nat) : Prop:= Nd ndT dg All w t.tr b
theorem TAt.below {dg : DG} {w w' : World} {t : T ByteArray} {b : Nat} (h : TAt dg w t b) (B : Below w.heap.size w w') : TAt dg w' t b:= nd_below B h
theorem TAt.lt {dg : DG} {w : World} {t : T ByteArray} {b : Nat} (h : TAt dg w t b) : b < w.heap.size:= nd_lt h
theorem TAt.node {dg : DG} {w : World} {t : T ByteArray} {b : Nat} (h : TAt dg w t b) : ∃ l r d s, NodeAt ndT w b t.tr.kind (str t.path) t.tr.value l r d s /\
   (∀ q w' b', Below w.heap.size w w' -> NodeAt ndT w' b' t.tr.kind (str q) t.tr.value l r 0 false -> TAt dg w' (if t.isEmpty then .empty else t.moved q) b' \/ t.isEmpty = true):= by
 cases t with
 | empty => obtain ⟨_, d, s, h1, h2⟩:= h; exact ⟨_, _, d, s, h1, fun q w' b' _ _ => .inr rfl⟩
 | leaf p v => obtain ⟨_, d, s, h1, h2⟩:= h; exact ⟨_, _, d, s, h1, fun q w' b' _ k => .inl ⟨trivial, 0, false, k, fun e => by cases e⟩⟩
 | branch p l r => obtain ⟨_, bl, br, d, s, h1, h2, h3, h4⟩:= h; exact ⟨_, _, d, s, h1, fun q w' b' B k => .inl ⟨trivial, bl, br, 0, false, k, nd_below B h2, nd_below B h3, fun e => by cases e⟩⟩
structure Fits (t : T ByteArray) (q : Bits) : Prop where
 rep : ∃ l, Rep l t /\ ∀ x, x ∈ l -> Apart q x.1
 short : q.length <= 1000
theorem Fits.side {p : Bits} {l r : T ByteArray} {s : Bool} {q : Bits} (h : Fits (.branch p l r) (p ++ s :: q)) : Fits (if s then r else l) q:= by
 obtain ⟨⟨L, hL, hA⟩, hs⟩:= h
 cases hL with
 | @branch l0 l1 _ _ _ h0 h1 a0 a1 =>
   have hlen : q.length <= 1000:= by simp at hs; omega
   cases s with
   | true => exact ⟨⟨l1, a1, fun x hx => by
       have:= hA (pre (p ++ [true]) x) (List.mem_append_right _ (List.mem_map.2 ⟨x, hx, rfl⟩))
       rw [show (pre (p ++ [true]) x).1 = p ++ (true :: x.1) by simp [pre]] at this
       exact Apart.pre (q:= [true]) this.pre⟩, hlen⟩
   | false => exact ⟨⟨l0, a0, fun x hx => by
       have:= hA (pre (p ++ [false]) x) (List.mem_append_left _ (List.mem_map.2 ⟨x, hx, rfl⟩))
       rw [show (pre (p ++ [false]) x).1 = p ++ (false :: x.1) by simp [pre]] at this
       exact Apart.pre (q:= [false]) this.pre⟩, hlen⟩
theorem Fits.stand {t : T ByteArray} {q : Bits} (h : Fits t q) (hne : t.isEmpty = false) : (∃ p v, t = .leaf p v /\ q = p) \/ (∃ p l r s q2, t = .branch p l r /\ q = p ++ s :: q2) \/ ∃ q1 s x y, t.path = q1 ++ (!s) :: x /\ q = q1 ++ s :: y:= by
 obtain ⟨⟨L, hL, hA⟩, hs⟩:= h
 cases hL with
 | empty => cases hne
 | leaf p v =>
   rcases hA (p, v) List.mem_cons_self with rfl | ⟨q1, s, x, y, rfl, e⟩
   . exact .inl ⟨q, v, rfl, rfl⟩
   . exact .inr (.inr ⟨q1, s, y, x, e, rfl⟩)
 | @branch l0 l1 _ _ p h0 h1 a0 a1 =>
   obtain ⟨z0, hz0⟩:= rep_ne a0 h0
   have h3:= hA (pre (p ++ [false]) z0) (List.mem_append_left _ (List.mem_map.2 ⟨z0, hz0, rfl⟩))
   rw [show (pre (p ++ [false]) z0).1 = p ++ (false :: z0.1) by simp [pre]] at h3
   rcases apart_stand h3 with ⟨x, rfl⟩ | ⟨q1, s, x, y, rfl, rfl⟩
   . cases x with
     | cons s q2 => exact .inr (.inl ⟨p, _, _, s, q2, rfl, rfl⟩)
     | nil =>
       exfalso
       rw [List.append_nil] at h3
       rcases h3 with h | ⟨q, s, x, y, e1, e2⟩
       . have:= congrArg List.length h; simp at this
       . rw [e1] at e2
         simp only [List.append_assoc, List.cons_append, List.append_cancel_left_eq, List.cons.injEq] at e2
         cases s <;> cases e2.1
   . exact .inr (.inr ⟨q1, s, x, y, rfl, rfl⟩)
def NodeC (w : World) (b : Nat) (k : Int) (p v : ByteArray) (l r : Option Addr) : Prop:= w.cell? ⟨b, 0, none⟩ = some (.int .i64 k) /\ w.cell? ⟨b, 1, none⟩ = some (.string p) /\ w.cell? ⟨b, 2, none⟩ = some (.string v) /\ w.cell? ⟨b, 3, none⟩ = some (.pointer l) /\ w.cell? ⟨b, 4, none⟩ = some (.pointer r)
theorem below_drewN (B : Nat) (w : World) (n : Nat) : Below B w (w.drewN n):= ⟨rfl, rfl, rfl, Nat.le_refl _, fun _ _ => rfl⟩
theorem cell_lt {w : World} {b : Nat} {v : Value} (h : w.cell? ⟨b, 0, none⟩ = some v) : b < w.heap.size:= by
 by_cases hb : b < w.heap.size
 . exact hb
 . simp [World.cell?, Array.getElem?_eq_none (Nat.le_of_not_lt hb)] at h
theorem conj_lt {w : World} {b : Nat} {kind : Int} {p v : ByteArray} {l r : Option Addr} (h : w.cell? ⟨b, 0, none⟩ = some (.int .i64 kind) /\ w.cell? ⟨b, 1, none⟩ = some (.string p) /\ w.cell? ⟨b, 2, none⟩ = some (.string v) /\ w.cell? ⟨b, 3, none⟩ = some (.pointer l) /\ w.cell? ⟨b, 4, none⟩ = some (.pointer r)) : b < w.heap.size:= cell_lt h.1
set_option maxHeartbeats 2000000 in
theorem moved_cells {b : Nat} {kind : Int} {p v : ByteArray} {l r : Option Addr} (q : ByteArray) (w : World) (h : w.cell? ⟨b, 0, none⟩ = some (.int .i64 kind) /\ w.cell? ⟨b, 1, none⟩ = some (.string p) /\ w.cell? ⟨b, 2, none⟩ = some (.string v) /\ w.cell? ⟨b, 3, none⟩ = some (.pointer l) /\ w.cell? ⟨b, 4, none⟩ = some (.pointer r)) :
   Calls Tryz.prog 62 #[.pointer (some ⟨b, 0, none⟩), .string q] w fun e w' => ∃ b', e = .returned (.pointer (ptr b')) /\ NodeAt ndT w' b' kind q v l r 0 false /\ Below w.heap.size w w':= by
 obtain ⟨h0, h1, h2, h3, h4⟩:= h
 have hb:= cell_lt h0
 go_enter Tryz.func62, Tryz.ntmps62
 go_wp2_with fail
 go_region
 go_wp2_with fail
 go_ret
 exact ⟨w.heap.size, rfl, ⟨(0, 0), heap_alloc_new w _⟩, ((Below.refl _ _).alloc (Nat.le_refl _) _).drew⟩
set_option maxRecDepth 20000 in
set_option maxHeartbeats 8000000 in
theorem split_raw {w : World} {b : Nat} {k : Int} {P0 V0 S0 R0 Q0 Y0 X0 v : ByteArray} {l r : Option Addr} {d : Int} {sl s : Bool} {m a c : Nat} (hN : NodeAt ndT w b k P0 V0 l r d sl) (hk : ¬ k = 2) (hm : m <= 1000)
   (hsz : S0.size = m + (a + 1)) (hsz2 : P0.size = m + (c + 1)) (hsz3 : R0.size = a + 1)
   (hsh : ∀ w, Calls Tryz.prog 59 #[.string P0, .string S0] w fun e w' => e = .returned (.int .i64 m) /\ ∃ n, w' = w.drewN n)
   (hsd : ∀ w, Calls Tryz.prog 61 #[.string R0] w fun e w' => e = .returned (.int .i64 (bit s)) /\ ∃ n, w' = w.drewN n)
   (e1 : S0.extract m (m + (a + 1)) = R0) (e2 : S0.extract 0 m = Q0) (e3 : R0.extract 1 (a + 1) = Y0) (e4 : P0.extract (m + 1) (m + (c + 1)) = X0) :
   Calls Tryz.prog 48 #[.pointer (some ⟨b, 0, none⟩), .string S0, .string v] w fun e w' => ∃ b' b1 b2, e = .returned (.pointer (ptr b')) /\ NodeAt ndT w' b' 1 Q0 noText (ptr (pick s b1 b2)) (ptr (pick s b2 b1)) 0 false /\ NodeAt ndT w' b1 0 Y0 v none none 0 false /\ NodeAt ndT w' b2 k X0 V0 l r 0 false /\ Below w.heap.size w w':= by
 obtain ⟨h0, h1, h2, h3, h4, h5⟩:= NodeAt.cells hN
 have hb:= NodeAt.lt hN
 have hk1 : (k == 2) = false:= by simpa using hk
 have hk2 : decide (k = 2) = false:= decide_eq_false hk
 have hlt : decide ((m : Int) < ((m + (c + 1) : Nat) : Int)) = true:= decide_eq_true (by omega)
 have i0 : (0 : Int) <= (m : Int):= by omega
 have i1 : (m : Int) <= (S0.size : Int):= by omega
 have i2 : (m : Int) <= ((m + (a + 1) : Nat) : Int):= by omega
 have i3 : (m : Int) <= (m : Int) + ((a : Int) + 1):= by omega
 have i4 : IntKind.i64.wrap ((m : Int) + 1) = (m : Int) + 1:= Go.wrap_small _ (by omega) (by omega)
 have j1 : (1 : Int) <= (R0.size : Int):= by omega
 have j2 : (1 : Int) <= ((a + 1 : Nat) : Int):= by omega
 have j3 : (1 : Int) <= (a : Int) + 1:= by omega
 have i5 : (0 : Int) <= (m : Int) + 1:= by omega
 have i6 : (m : Int) + 1 <= (P0.size : Int):= by omega
 have i7 : (m : Int) + 1 <= ((m + (c + 1) : Nat) : Int):= by omega
 have i8 : (m : Int) + 1 <= (m : Int) + ((c : Int) + 1):= by omega
 go_enter Tryz.func48, Tryz.ntmps48
 go_wp2_with (go_at_call 59; refine (hsh _).mono ?_; rintro e w' ⟨rfl, n1, rfl⟩)
 have hA : ∀ n : Nat, NodeC (w.drewN n).drew b k P0 V0 l r:= fun n => ⟨h0, h1, h2, h3, h4⟩
 go_region_held3 (fun w' => w'.cell? ⟨b, 0, none⟩ = some (.int .i64 k) /\ w'.cell? ⟨b, 1, none⟩ = some (.string P0) /\ w'.cell? ⟨b, 2, none⟩ = some (.string V0) /\ w'.cell? ⟨b, 3, none⟩ = some (.pointer l) /\ w'.cell? ⟨b, 4, none⟩ = some (.pointer r)) (go_keep)
   (first
   | (go_at_call 61; refine (hsd _).mono ?_; rintro e w2 ⟨rfl, n2, rfl⟩)
   | (go_at_call 58; refine (leaf_any _ _ _).mono ?_; rintro e w3 ⟨b1, rfl, hN1, hB1⟩; have khB10:= hB1.cell (p:= ⟨b, 0, none⟩) (by first | exact cell_lt (by assumption) | exact conj_lt (by assumption)); have khB11:= hB1.cell (p:= ⟨b, 1, none⟩) (by first | exact cell_lt (by assumption) | exact conj_lt (by assumption)); have khB12:= hB1.cell (p:= ⟨b, 2, none⟩) (by first | exact cell_lt (by assumption) | exact conj_lt (by assumption)); have khB13:= hB1.cell (p:= ⟨b, 3, none⟩) (by first | exact cell_lt (by assumption) | exact conj_lt (by assumption)); have khB14:= hB1.cell (p:= ⟨b, 4, none⟩) (by first | exact cell_lt (by assumption) | exact conj_lt (by assumption)))
   | (go_at_call 62; refine (moved_cells _ _ (by assumption)).mono ?_; rintro e w4 ⟨b2, rfl, hN2, hB2⟩; have khB20:= hB2.cell (p:= ⟨b, 0, none⟩) (by first | exact cell_lt (by assumption) | exact conj_lt (by assumption)); have khB21:= hB2.cell (p:= ⟨b, 1, none⟩) (by first | exact cell_lt (by assumption) | exact conj_lt (by assumption)); have khB22:= hB2.cell (p:= ⟨b, 2, none⟩) (by first | exact cell_lt (by assumption) | exact conj_lt (by assumption)); have khB23:= hB2.cell (p:= ⟨b, 3, none⟩) (by first | exact cell_lt (by assumption) | exact conj_lt (by assumption)); have khB24:= hB2.cell (p:= ⟨b, 4, none⟩) (by first | exact cell_lt (by assumption) | exact conj_lt (by assumption)))
   | (go_at_call 60; refine (branch_any _ _ _ _ _).mono ?_; rintro e w5 ⟨b3, rfl, hN3, hB3⟩; have khB30:= hB3.cell (p:= ⟨b, 0, none⟩) (by first | exact cell_lt (by assumption) | exact conj_lt (by assumption)); have khB31:= hB3.cell (p:= ⟨b, 1, none⟩) (by first | exact cell_lt (by assumption) | exact conj_lt (by assumption)); have khB32:= hB3.cell (p:= ⟨b, 2, none⟩) (by first | exact cell_lt (by assumption) | exact conj_lt (by assumption)); have khB33:= hB3.cell (p:= ⟨b, 3, none⟩) (by first | exact cell_lt (by assumption) | exact conj_lt (by assumption)); have khB34:= hB3.cell (p:= ⟨b, 4, none⟩) (by first | exact cell_lt (by assumption) | exact conj_lt (by assumption))))
 go_wp2_with fail
 go_ret
 have z1:= hB1.size
 have z2:= hB2.size
 have z3:= hB3.size
 exact ⟨b3, b1, b2, rfl, hN3, NodeAt.below (NodeAt.below hN1 hB2) hB3, NodeAt.below hN2 hB3, below_mono (below_mono (below_mono (below_drewN _ _ _) hB1) hB2) hB3⟩
set_option maxRecDepth 20000 in
set_option maxHeartbeats 8000000 in
theorem with_empty {w : World} {b : Nat} {P0 V0 S0 v : ByteArray} {l r : Option Addr} {d : Int} {sl : Bool} (hN : NodeAt ndT w b 2 P0 V0 l r d sl) :
   Calls Tryz.prog 48 #[.pointer (some ⟨b, 0, none⟩), .string S0, .string v] w fun e w' => ∃ b', e = .returned (.pointer (ptr b')) /\ NodeAt ndT w' b' 0 S0 v none none 0 false /\ Below w.heap.size w w':= by
 obtain ⟨h0, h1, h2, h3, h4, h5⟩:= NodeAt.cells hN
 have hb:= NodeAt.lt hN
 go_enter Tryz.func48, Tryz.ntmps48
 go_wp2_with (go_at_call 58; refine (leaf_any _ _ _).mono ?_; rintro e w3 ⟨b1, rfl, hN1, hB1⟩)
 go_ret
 exact ⟨_, rfl, hN1, hB1⟩
set_option maxRecDepth 20000 in
set_option maxHeartbeats 8000000 in
theorem with_leaf {w : World} {b : Nat} {P0 V0 S0 v : ByteArray} {l r : Option Addr} {d : Int} {sl : Bool} {m : Nat} (hN : NodeAt ndT w b 0 P0 V0 l r d sl) (hsz : P0.size = m)
   (hsh : ∀ w, Calls Tryz.prog 59 #[.string P0, .string S0] w fun e w' => e = .returned (.int .i64 m) /\ ∃ n, w' = w.drewN n) :
   Calls Tryz.prog 48 #[.pointer (some ⟨b, 0, none⟩), .string S0, .string v] w fun e w' => ∃ b', e = .returned (.pointer (ptr b')) /\ NodeAt ndT w' b' 0 S0 v none none 0 false /\ Below w.heap.size w w':= by
 obtain ⟨h0, h1, h2, h3, h4, h5⟩:= NodeAt.cells hN
 have hb:= NodeAt.lt hN
 have hlt : decide ((m : Int) < (m : Int)) = false:= decide_eq_false (by omega)
 go_enter Tryz.func48, Tryz.ntmps48
 go_wp2_with (first
   | (go_at_call 59; refine (hsh _).mono ?_; rintro e w' ⟨rfl, n1, rfl⟩)
   | (go_at_call 58; refine (leaf_any _ _ _).mono ?_; rintro e w3 ⟨b1, rfl, hN1, hB1⟩))
 go_ret
 exact ⟨_, rfl, hN1, below_mono (below_drewN _ _ _) hB1⟩
set_option maxRecDepth 20000 in
set_option maxHeartbeats 8000000 in
theorem with_down {w : World} {b : Nat} {P0 S0 R0 Y0 v : ByteArray} {bl br : Nat} {d : Int} {sl s : Bool} {m a : Nat} {Q : World -> Nat -> Prop} (hN : NodeAt ndT w b 1 P0 noText (ptr bl) (ptr br) d sl) (hm : m <= 1000)
   (hsz : S0.size = m + (a + 1)) (hsz2 : P0.size = m) (hsz3 : R0.size = a + 1)
   (hsh : ∀ w, Calls Tryz.prog 59 #[.string P0, .string S0] w fun e w' => e = .returned (.int .i64 m) /\ ∃ n, w' = w.drewN n)
   (hsd : ∀ w, Calls Tryz.prog 61 #[.string R0] w fun e w' => e = .returned (.int .i64 (bit s)) /\ ∃ n, w' = w.drewN n)
   (e1 : S0.extract m (m + (a + 1)) = R0) (e3 : R0.extract 1 (a + 1) = Y0)
   (hrec : ∀ n, Calls Tryz.prog 48 #[.pointer (ptr (pick s bl br)), .string Y0, .string v] (w.drewN n) fun e w' => ∃ b', e = .returned (.pointer (ptr b')) /\ Q w' b' /\ Below (w.drewN n).heap.size (w.drewN n) w') :
   Calls Tryz.prog 48 #[.pointer (some ⟨b, 0, none⟩), .string S0, .string v] w fun e w' => ∃ b' c w2, e = .returned (.pointer (ptr b')) /\ NodeAt ndT w' b' 1 P0 noText (ptr (pick s c (pick s br bl))) (ptr (pick s (pick s br bl) c)) 0 false /\ Q w2 c /\ Below w2.heap.size w2 w' /\ Below w.heap.size w w':= by
 obtain ⟨h0, h1, h2, h3, h4, h5⟩:= NodeAt.cells hN
 have hb:= NodeAt.lt hN
 have hlt : decide ((m : Int) < (m : Int)) = false:= decide_eq_false (by omega)
 have i0 : (0 : Int) <= (m : Int):= by omega
 have i1 : (m : Int) <= (S0.size : Int):= by omega
 have i2 : (m : Int) <= ((m + (a + 1) : Nat) : Int):= by omega
 have i3 : (m : Int) <= (m : Int) + ((a : Int) + 1):= by omega
 have j1 : (1 : Int) <= (R0.size : Int):= by omega
 have j2 : (1 : Int) <= ((a + 1 : Nat) : Int):= by omega
 have j3 : (1 : Int) <= (a : Int) + 1:= by omega
 have u1 : IntKind.i64.wrap 1 = 1:= rfl
 have u0 : IntKind.i64.wrap 0 = 0:= rfl
 have hA : ∀ n : Nat, NodeC (w.drewN n).drew b 1 P0 noText (ptr bl) (ptr br):= fun n => ⟨h0, h1, h2, h3, h4⟩
 cases s with
 | true =>
   simp only [bit, if_true] at hsd
   simp only [pick, if_true] at hrec ⊢
   go_enter Tryz.func48, Tryz.ntmps48
   go_wp2_with (first
     | (go_at_call 59; refine (hsh _).mono ?_; rintro e w' ⟨rfl, n1, rfl⟩)
     | (go_at_call 61; refine (hsd _).mono ?_; rintro e w' ⟨rfl, n2, rfl⟩))
   go_region_held3 (fun w' => w'.cell? ⟨b, 0, none⟩ = some (.int .i64 1) /\ w'.cell? ⟨b, 1, none⟩ = some (.string P0) /\ w'.cell? ⟨b, 2, none⟩ = some (.string noText) /\ w'.cell? ⟨b, 3, none⟩ = some (.pointer (ptr bl)) /\ w'.cell? ⟨b, 4, none⟩ = some (.pointer (ptr br))) (go_keep)
     (first
     | (go_at_call 48; refine (hrec _).mono ?_; rintro e w3 ⟨b1, rfl, hN1, hB1⟩; have khB10:= hB1.cell (p:= ⟨b, 0, none⟩) (by first | exact cell_lt (by assumption) | exact conj_lt (by assumption)); have khB11:= hB1.cell (p:= ⟨b, 1, none⟩) (by first | exact cell_lt (by assumption) | exact conj_lt (by assumption)); have khB12:= hB1.cell (p:= ⟨b, 2, none⟩) (by first | exact cell_lt (by assumption) | exact conj_lt (by assumption)); have khB13:= hB1.cell (p:= ⟨b, 3, none⟩) (by first | exact cell_lt (by assumption) | exact conj_lt (by assumption)); have khB14:= hB1.cell (p:= ⟨b, 4, none⟩) (by first | exact cell_lt (by assumption) | exact conj_lt (by assumption)))
     | (go_at_call 60; refine (branch_any _ true _ _ _).mono ?_; rintro e w5 ⟨b3, rfl, hN3, hB3⟩; have khB30:= hB3.cell (p:= ⟨b, 0, none⟩) (by first | exact cell_lt (by assumption) | exact conj_lt (by assumption)); have khB31:= hB3.cell (p:= ⟨b, 1, none⟩) (by first | exact cell_lt (by assumption) | exact conj_lt (by assumption)); have khB32:= hB3.cell (p:= ⟨b, 2, none⟩) (by first | exact cell_lt (by assumption) | exact conj_lt (by assumption)); have khB33:= hB3.cell (p:= ⟨b, 3, none⟩) (by first | exact cell_lt (by assumption) | exact conj_lt (by assumption)); have khB34:= hB3.cell (p:= ⟨b, 4, none⟩) (by first | exact cell_lt (by assumption) | exact conj_lt (by assumption))))
   go_wp2_with fail
   go_ret
   exact ⟨b3, b1, w3, rfl, hN3, hN1, hB3, below_mono (below_mono (below_drewN _ _ _) hB1) hB3⟩
 | false =>
   simp only [bit, Bool.false_eq_true, if_false] at hsd
   simp only [pick, Bool.false_eq_true, if_false] at hrec ⊢
   go_enter Tryz.func48, Tryz.ntmps48
   go_wp2_with (first
     | (go_at_call 59; refine (hsh _).mono ?_; rintro e w' ⟨rfl, n1, rfl⟩)
     | (go_at_call 61; refine (hsd _).mono ?_; rintro e w' ⟨rfl, n2, rfl⟩))
   go_region_held3 (fun w' => w'.cell? ⟨b, 0, none⟩ = some (.int .i64 1) /\ w'.cell? ⟨b, 1, none⟩ = some (.string P0) /\ w'.cell? ⟨b, 2, none⟩ = some (.string noText) /\ w'.cell? ⟨b, 3, none⟩ = some (.pointer (ptr bl)) /\ w'.cell? ⟨b, 4, none⟩ = some (.pointer (ptr br))) (go_keep)
     (first
     | (go_at_call 48; refine (hrec _).mono ?_; rintro e w3 ⟨b1, rfl, hN1, hB1⟩; have khB10:= hB1.cell (p:= ⟨b, 0, none⟩) (by first | exact cell_lt (by assumption) | exact conj_lt (by assumption)); have khB11:= hB1.cell (p:= ⟨b, 1, none⟩) (by first | exact cell_lt (by assumption) | exact conj_lt (by assumption)); have khB12:= hB1.cell (p:= ⟨b, 2, none⟩) (by first | exact cell_lt (by assumption) | exact conj_lt (by assumption)); have khB13:= hB1.cell (p:= ⟨b, 3, none⟩) (by first | exact cell_lt (by assumption) | exact conj_lt (by assumption)); have khB14:= hB1.cell (p:= ⟨b, 4, none⟩) (by first | exact cell_lt (by assumption) | exact conj_lt (by assumption)))
     | (go_at_call 60; refine (branch_any _ false _ _ _).mono ?_; rintro e w5 ⟨b3, rfl, hN3, hB3⟩; have khB30:= hB3.cell (p:= ⟨b, 0, none⟩) (by first | exact cell_lt (by assumption) | exact conj_lt (by assumption)); have khB31:= hB3.cell (p:= ⟨b, 1, none⟩) (by first | exact cell_lt (by assumption) | exact conj_lt (by assumption)); have khB32:= hB3.cell (p:= ⟨b, 2, none⟩) (by first | exact cell_lt (by assumption) | exact conj_lt (by assumption)); have khB33:= hB3.cell (p:= ⟨b, 3, none⟩) (by first | exact cell_lt (by assumption) | exact conj_lt (by assumption)); have khB34:= hB3.cell (p:= ⟨b, 4, none⟩) (by first | exact cell_lt (by assumption) | exact conj_lt (by assumption))))
   go_wp2_with fail
   go_ret
   exact ⟨b3, b1, w3, rfl, hN3, hN1, hB3, below_mono (below_mono (below_drewN _ _ _) hB1) hB3⟩
variable {dg : DG}
theorem tat_leaf {w : World} {b : Nat} {p : Bits} {v : ByteArray} (h : NodeAt ndT w b 0 (str p) v none none 0 false) : TAt dg w (.leaf p v) b:= ⟨trivial, 0, false, h, fun e => by cases e⟩
theorem tat_branch {w : World} {b bl br : Nat} {p : Bits} {l r : T ByteArray} (h : NodeAt ndT w b 1 (str p) noText (ptr bl) (ptr br) 0 false) (hl : TAt dg w l bl) (hr : TAt dg w r br) : TAt dg w (.branch p l r) b:= ⟨trivial, bl, br, 0, false, h, hl, hr, fun e => by cases e⟩
theorem tat_fork {w : World} {b x y : Nat} {p : Bits} {s : Bool} {t o : T ByteArray} (h : NodeAt ndT w b 1 (str p) noText (ptr (pick s x y)) (ptr (pick s y x)) 0 false) (hx : TAt dg w t x) (hy : TAt dg w o y) : TAt dg w (fork p s t o) b:= by
 cases s with
 | true => exact tat_branch h hy hx
 | false => exact tat_branch h hx hy
theorem kind_ne {t : T ByteArray} (h : t.isEmpty = false) : ¬ t.tr.kind = 2:= by
 cases t with
 | empty => cases h
 | leaf p v => intro e; cases e
 | branch p l r => intro e; cases e
theorem drop_app (q r : Bits) : (q ++ r).drop q.length = r:= by simp
theorem str_off {q r : Bits} {m n : Nat} (hm : m = q.length) (hn : n = q.length + r.length) : (str (q ++ r)).extract m n = str r:= by
 have:= str_drop (q ++ r) q.length
 rw [drop_app] at this
 rw [hm, hn, <- List.length_append]; exact this
theorem with_split {w : World} {b : Nat} {t : T ByteArray} {q1 x y : Bits} {s : Bool} {v : ByteArray} (hT : TAt dg w t b) (hne : t.isEmpty = false) (hp : t.path = q1 ++ (!s) :: x) (hl : (q1 ++ s :: y).length <= 1000) :
   Calls Tryz.prog 48 #[.pointer (ptr b), .string (str (q1 ++ s :: y)), .string v] w fun e w' => ∃ b', e = .returned (.pointer (ptr b')) /\ TAt dg w' (fork q1 s (.leaf y v) (t.moved x)) b' /\ Below w.heap.size w w':= by
 obtain ⟨l, r, d, sl, hN, hm⟩:= TAt.node hT
 have hlen : q1.length <= 1000:= by simp at hl; omega
 refine (split_raw (P0:= str t.path) (S0:= str (q1 ++ s :: y)) (R0:= str (s :: y)) (Q0:= str q1) (Y0:= str y) (X0:= str x) (m:= q1.length) (a:= y.length) (c:= x.length) (s:= s) (v:= v) hN (kind_ne hne) hlen ?_ ?_ ?_ ?_ ?_ ?_ ?_ ?_ ?_).mono ?_
 . rw [str_size]; simp
 . rw [hp, str_size]; simp
 . rw [str_size]; simp
 . intro w1; have h:= shared_any t.path (q1 ++ s :: y) w1 hl; rw [hp] at h ⊢; rw [share_split] at h; exact h
 . intro w1; exact sideOf_any s y w1
 . exact str_off rfl rfl
 . rw [str_take]; simp
 . exact str_off (q:= [s]) (r:= y) rfl (by simp; omega)
 . rw [hp, show q1 ++ (!s) :: x = (q1 ++ [!s]) ++ x by simp]; exact str_off (by simp) (by simp; omega)
 . rintro e w' ⟨b', b1, b2, rfl, h1, h2, h3, h4⟩
   refine ⟨b', rfl, tat_fork h1 (tat_leaf h2) ?_, h4⟩
   rcases hm x w' b2 h4 h3 with h | h
   . rw [hne] at h; exact h
   . rw [hne] at h; cases h
theorem wth_split {t : T ByteArray} {q1 x y : Bits} {s : Bool} {v : ByteArray} (hne : t.isEmpty = false) (hp : t.path = q1 ++ (!s) :: x) : t.wth (q1 ++ s :: y) v = fork q1 s (.leaf y v) (t.moved x):= by
 have hs : share t.path (q1 ++ s :: y) = q1.length:= by rw [hp, share_split]
 have hlt : share t.path (q1 ++ s :: y) < t.path.length:= by rw [hs, hp]; simp
 have hd : t.path.drop (q1.length + 1) = x:= by rw [hp, show q1 ++ (!s) :: x = (q1 ++ [!s]) ++ x by simp]; simp [List.drop_append]
 have key : parted t (share t.path (q1 ++ s :: y)) (q1 ++ s :: y) v = fork q1 s (.leaf y v) (t.moved x):= by
   rw [hs]; simp only [parted, drop_app]; rw [hd]; simp
 cases t with
 | empty => cases hne
 | leaf p z => simp only [T.wth]; simp only [T.path] at hlt key; rw [if_pos hlt]; exact key
 | branch p l r => simp only [T.wth]; simp only [T.path] at hlt key; rw [if_pos hlt]; exact key
theorem with_any : ∀ (t : T ByteArray) (q : Bits) (v : ByteArray) (w : World) (b : Nat), Fits t q -> TAt dg w t b ->
   Calls Tryz.prog 48 #[.pointer (ptr b), .string (str q), .string v] w fun e w' => ∃ b', e = .returned (.pointer (ptr b')) /\ TAt dg w' (t.wth q v) b' /\ Below w.heap.size w w'
 | .empty, q, v, w, b, hF, hT => by
   obtain ⟨_, d, s, h, _⟩:= hT
   refine (with_empty h).mono ?_
   rintro e w' ⟨b', rfl, h1, h2⟩
   exact ⟨b', rfl, tat_leaf h1, h2⟩
 | .leaf p z, q, v, w, b, hF, hT => by
   rcases hF.stand rfl with ⟨p', v', e, rfl⟩ | ⟨_, _, _, _, _, e, _⟩ | ⟨q1, s, x, y, hp, rfl⟩
   . cases e
     obtain ⟨_, d, s, h, _⟩:= hT
     refine (with_leaf (m:= p.length) h ?_ ?_).mono ?_
     . show (str p).size = _; rw [str_size]
     . intro w1
       have h:= shared_any p p w1 hF.short
       have e:= share_app p []
       rw [List.append_nil] at e
       rw [e] at h
       exact h
     . rintro e w' ⟨b', rfl, h1, h2⟩
       refine ⟨b', rfl, ?_, h2⟩
       have e:= share_app p []
       rw [List.append_nil] at e
       simp only [T.wth]
       rw [if_neg (by omega)]
       exact tat_leaf h1
   . cases e
   . rw [wth_split rfl hp]; exact with_split hT rfl hp hF.short
 | .branch p l r, q, v, w, b, hF, hT => by
   rcases hF.stand rfl with ⟨_, _, e, _⟩ | ⟨p', l', r', s, q2, e, rfl⟩ | ⟨q1, s, x, y, hp, rfl⟩
   . cases e
   . cases e
     have hside:= hF.side
     have hlen:= hF.short
     obtain ⟨_, bl, br, d, sl, h1, h2, h3, h4⟩:= hT
     have hp1 : p.length <= 1000:= by simp at hlen; omega
     refine (with_down (P0:= str p) (S0:= str (p ++ s :: q2)) (R0:= str (s :: q2)) (Y0:= str q2) (m:= p.length) (a:= q2.length) (s:= s) (v:= v) (Q:= fun w' b' => TAt dg w' ((if s then r else l).wth q2 v) b' /\ Below w.heap.size w w') h1 hp1 ?_ ?_ ?_ ?_ ?_ ?_ ?_ ?_).mono ?_
     . rw [str_size]; simp
     . rw [str_size]
     . rw [str_size]; simp
     . intro w1; have h:= shared_any p (p ++ s :: q2) w1 hlen; rw [share_app] at h; exact h
     . intro w1; exact sideOf_any s q2 w1
     . exact str_off rfl rfl
     . exact str_off (q:= [s]) (r:= q2) rfl (by simp; omega)
     . intro n
       have hB:= below_drewN w.heap.size w n
       cases s with
       | true =>
         refine (with_any r q2 v (w.drewN n) br hside (TAt.below h3 hB)).mono ?_
         rintro e w' ⟨b', rfl, k1, k2⟩
         exact ⟨b', rfl, ⟨k1, below_mono hB k2⟩, k2⟩
       | false =>
         refine (with_any l q2 v (w.drewN n) bl hside (TAt.below h2 hB)).mono ?_
         rintro e w' ⟨b', rfl, k1, k2⟩
         exact ⟨b', rfl, ⟨k1, below_mono hB k2⟩, k2⟩
     . rintro e w' ⟨b', c, w2, rfl, k1, ⟨k2, k3⟩, k4, k5⟩
       refine ⟨b', rfl, ?_, k5⟩
       have hw : (T.branch p l r).wth (p ++ s :: q2) v = if s then .branch p l (r.wth q2 v) else .branch p (l.wth q2 v) r:= by
         simp only [T.wth]
         rw [share_app, if_neg (by omega), drop_app]
         cases s <;> rfl
       rw [hw]
       cases s with
       | true => exact tat_branch k1 (TAt.below h2 k5) (TAt.below k2 k4)
       | false => exact tat_branch k1 (TAt.below k2 k4) (TAt.below h3 k5)
   . rw [wth_split rfl hp]; exact with_split hT rfl hp hF.short
theorem moved_cells2 {A : Prop} {b : Nat} {kind : Int} {p v : ByteArray} {l r : Option Addr} (q : ByteArray) (w : World) (h : A /\ w.cell? ⟨b, 0, none⟩ = some (.int .i64 kind) /\ w.cell? ⟨b, 1, none⟩ = some (.string p) /\ w.cell? ⟨b, 2, none⟩ = some (.string v) /\ w.cell? ⟨b, 3, none⟩ = some (.pointer l) /\ w.cell? ⟨b, 4, none⟩ = some (.pointer r)) :
   Calls Tryz.prog 62 #[.pointer (some ⟨b, 0, none⟩), .string q] w fun e w' => ∃ b', e = .returned (.pointer (ptr b')) /\ NodeAt ndT w' b' kind q v l r 0 false /\ Below w.heap.size w w':= moved_cells q w h.2
set_option maxRecDepth 20000 in
set_option maxHeartbeats 8000000 in
theorem without_leaf {w : World} {b : Nat} {P0 V0 S0 : ByteArray} {l r : Option Addr} {d : Int} {sl : Bool} (hN : NodeAt ndT w b 0 P0 V0 l r d sl) :
   Calls Tryz.prog 49 #[.pointer (some ⟨b, 0, none⟩), .string S0] w fun e w' => ∃ b', e = .returned (.pointer (ptr b')) /\ NodeAt ndT w' b' 2 noText noText none none 0 false /\ Below w.heap.size w w':= by
 obtain ⟨h0, h1, h2, h3, h4, h5⟩:= NodeAt.cells hN
 have hb:= NodeAt.lt hN
 go_enter Tryz.func49, Tryz.ntmps49
 go_wp2_with (go_at_call 43; refine (empty_any _).mono ?_; rintro e w3 ⟨b1, rfl, hN1, hB1⟩)
 go_ret
 exact ⟨_, rfl, hN1, hB1⟩
set_option maxRecDepth 20000 in
set_option maxHeartbeats 8000000 in
theorem without_down {w : World} {b : Nat} {P0 S0 R0 Y0 : ByteArray} {bl br : Nat} {d : Int} {sl s : Bool} {m a : Nat} {k : Int} {Q : World -> Nat -> Prop} (hN : NodeAt ndT w b 1 P0 noText (ptr bl) (ptr br) d sl) (hk : ¬ k = 2) (hm : m <= 1000)
   (hsz : S0.size = m + (a + 1)) (hsz2 : P0.size = m) (hsz3 : R0.size = a + 1)
   (hsd : ∀ w, Calls Tryz.prog 61 #[.string R0] w fun e w' => e = .returned (.int .i64 (bit s)) /\ ∃ n, w' = w.drewN n)
   (e1 : S0.extract m (m + (a + 1)) = R0) (e3 : R0.extract 1 (a + 1) = Y0)
   (hrec : ∀ n, Calls Tryz.prog 49 #[.pointer (ptr (pick s bl br)), .string Y0] (w.drewN n) fun e w' => ∃ b', e = .returned (.pointer (ptr b')) /\ w'.cell? ⟨b', 0, none⟩ = some (.int .i64 k) /\ Q w' b' /\ Below (w.drewN n).heap.size (w.drewN n) w') :
   Calls Tryz.prog 49 #[.pointer (some ⟨b, 0, none⟩), .string S0] w fun e w' => ∃ b' c w2, e = .returned (.pointer (ptr b')) /\ NodeAt ndT w' b' 1 P0 noText (ptr (pick s c (pick s br bl))) (ptr (pick s (pick s br bl) c)) 0 false /\ Q w2 c /\ Below w2.heap.size w2 w' /\ Below w.heap.size w w':= by
 obtain ⟨h0, h1, h2, h3, h4, h5⟩:= NodeAt.cells hN
 have hb:= NodeAt.lt hN
 have i0 : (0 : Int) <= (m : Int):= by omega
 have i1 : (m : Int) <= (S0.size : Int):= by omega
 have i2 : (m : Int) <= ((m + (a + 1) : Nat) : Int):= by omega
 have i3 : (m : Int) <= (m : Int) + ((a : Int) + 1):= by omega
 have j1 : (1 : Int) <= (R0.size : Int):= by omega
 have j2 : (1 : Int) <= ((a + 1 : Nat) : Int):= by omega
 have j3 : (1 : Int) <= (a : Int) + 1:= by omega
 have u1 : IntKind.i64.wrap 1 = 1:= rfl
 have u0 : IntKind.i64.wrap 0 = 0:= rfl
 have hk2 : decide (k = 2) = false:= decide_eq_false hk
 have hk1 : (k == 2) = false:= by simpa using hk
 cases s with
 | true =>
   simp only [bit, if_true] at hsd
   simp only [pick, ptr, if_true] at hrec h3 h4 ⊢
   go_enter Tryz.func49, Tryz.ntmps49
   go_wp2_with (go_at_call 61; refine (hsd _).mono ?_; rintro e w' ⟨rfl, n2, rfl⟩)
   go_region_held3 (fun w' => w'.cell? ⟨b, 0, none⟩ = some (.int .i64 1) /\ w'.cell? ⟨b, 1, none⟩ = some (.string P0) /\ w'.cell? ⟨b, 2, none⟩ = some (.string noText) /\ w'.cell? ⟨b, 3, none⟩ = some (.pointer (some ⟨bl, 0, none⟩)) /\ w'.cell? ⟨b, 4, none⟩ = some (.pointer (some ⟨br, 0, none⟩))) (go_keep)
     (first | (go_at_call 49; refine (hrec _).mono ?_; rintro e w3 ⟨b1, rfl, hK1, hN1, hB1⟩; have khB10:= hB1.cell (p:= ⟨b, 0, none⟩) (by first | exact cell_lt (by assumption) | exact conj_lt (by assumption)); have khB11:= hB1.cell (p:= ⟨b, 1, none⟩) (by first | exact cell_lt (by assumption) | exact conj_lt (by assumption)); have khB12:= hB1.cell (p:= ⟨b, 2, none⟩) (by first | exact cell_lt (by assumption) | exact conj_lt (by assumption)); have khB13:= hB1.cell (p:= ⟨b, 3, none⟩) (by first | exact cell_lt (by assumption) | exact conj_lt (by assumption)); have khB14:= hB1.cell (p:= ⟨b, 4, none⟩) (by first | exact cell_lt (by assumption) | exact conj_lt (by assumption))))
   go_wp2_with (go_at_call 60; refine (branch_any _ true _ _ _).mono ?_; rintro e w5 ⟨b3, rfl, hN3, hB3⟩)
   go_ret
   exact ⟨b3, b1, w3, rfl, hN3, hN1, hB3, below_mono (below_mono (below_drewN _ _ _) hB1) hB3⟩
 | false =>
   simp only [bit, Bool.false_eq_true, if_false] at hsd
   simp only [pick, ptr, Bool.false_eq_true, if_false] at hrec h3 h4 ⊢
   go_enter Tryz.func49, Tryz.ntmps49
   go_wp2_with (go_at_call 61; refine (hsd _).mono ?_; rintro e w' ⟨rfl, n2, rfl⟩)
   go_region_held3 (fun w' => w'.cell? ⟨b, 0, none⟩ = some (.int .i64 1) /\ w'.cell? ⟨b, 1, none⟩ = some (.string P0) /\ w'.cell? ⟨b, 2, none⟩ = some (.string noText) /\ w'.cell? ⟨b, 3, none⟩ = some (.pointer (some ⟨bl, 0, none⟩)) /\ w'.cell? ⟨b, 4, none⟩ = some (.pointer (some ⟨br, 0, none⟩))) (go_keep)
     (first | (go_at_call 49; refine (hrec _).mono ?_; rintro e w3 ⟨b1, rfl, hK1, hN1, hB1⟩; have khB10:= hB1.cell (p:= ⟨b, 0, none⟩) (by first | exact cell_lt (by assumption) | exact conj_lt (by assumption)); have khB11:= hB1.cell (p:= ⟨b, 1, none⟩) (by first | exact cell_lt (by assumption) | exact conj_lt (by assumption)); have khB12:= hB1.cell (p:= ⟨b, 2, none⟩) (by first | exact cell_lt (by assumption) | exact conj_lt (by assumption)); have khB13:= hB1.cell (p:= ⟨b, 3, none⟩) (by first | exact cell_lt (by assumption) | exact conj_lt (by assumption)); have khB14:= hB1.cell (p:= ⟨b, 4, none⟩) (by first | exact cell_lt (by assumption) | exact conj_lt (by assumption))))
   go_wp2_with (go_at_call 60; refine (branch_any _ false _ _ _).mono ?_; rintro e w5 ⟨b3, rfl, hN3, hB3⟩)
   go_ret
   exact ⟨b3, b1, w3, rfl, hN3, hN1, hB3, below_mono (below_mono (below_drewN _ _ _) hB1) hB3⟩
set_option maxRecDepth 20000 in
set_option maxHeartbeats 8000000 in
theorem without_gone {w : World} {b : Nat} {P0 S0 R0 Y0 : ByteArray} {bl br : Nat} {d : Int} {sl s : Bool} {m a : Nat} {k2 d2 : Int} {P2 V2 SG : ByteArray} {l2 r2 : Option Addr} {s2 : Bool} {Q : World -> Nat -> Prop} (hN : NodeAt ndT w b 1 P0 noText (ptr bl) (ptr br) d sl) (hP2 : P2.size <= 1000) (g0 : SG.size = 1) (hsg : ∀ w, Calls Tryz.prog 52 #[.int .i64 (bit (!s))] w fun e w' => e = .returned (.string SG) /\ w' = w) (hO : NodeAt ndT w (pick s br bl) k2 P2 V2 l2 r2 d2 s2) (hm : m <= 1000)
   (hsz : S0.size = m + (a + 1)) (hsz2 : P0.size = m) (hsz3 : R0.size = a + 1)
   (hsd : ∀ w, Calls Tryz.prog 61 #[.string R0] w fun e w' => e = .returned (.int .i64 (bit s)) /\ ∃ n, w' = w.drewN n)
   (e1 : S0.extract m (m + (a + 1)) = R0) (e3 : R0.extract 1 (a + 1) = Y0)
   (hrec : ∀ n, Calls Tryz.prog 49 #[.pointer (ptr (pick s bl br)), .string Y0] (w.drewN n) fun e w' => ∃ b', e = .returned (.pointer (ptr b')) /\ w'.cell? ⟨b', 0, none⟩ = some (.int .i64 2) /\ Q w' b' /\ Below (w.drewN n).heap.size (w.drewN n) w') :
   Calls Tryz.prog 49 #[.pointer (some ⟨b, 0, none⟩), .string S0] w fun e w' => ∃ b', e = .returned (.pointer (ptr b')) /\ NodeAt ndT w' b' k2 (P0 ++ SG ++ P2) V2 l2 r2 0 false /\ Below w.heap.size w w':= by
 obtain ⟨h0, h1, h2, h3, h4, h5⟩:= NodeAt.cells hN
 have hb:= NodeAt.lt hN
 have i0 : (0 : Int) <= (m : Int):= by omega
 have i1 : (m : Int) <= (S0.size : Int):= by omega
 have i2 : (m : Int) <= ((m + (a + 1) : Nat) : Int):= by omega
 have i3 : (m : Int) <= (m : Int) + ((a : Int) + 1):= by omega
 have j1 : (1 : Int) <= (R0.size : Int):= by omega
 have j2 : (1 : Int) <= ((a + 1 : Nat) : Int):= by omega
 have j3 : (1 : Int) <= (a : Int) + 1:= by omega
 have u1 : IntKind.i64.wrap 1 = 1:= rfl
 have u0 : IntKind.i64.wrap 0 = 0:= rfl
 obtain ⟨o0, o1, o2, o3, o4, o5⟩:= NodeAt.cells hO
 cases s with
 | true =>
   simp only [bit, if_true] at hsd
   simp only [pick, ptr, if_true] at hrec h3 h4 o0 o1 o2 o3 o4 ⊢
   have hx : NodeC w bl k2 P2 V2 l2 r2:= ⟨o0, o1, o2, o3, o4⟩
   have hol : bl < w.heap.size:= cell_lt o0
   go_enter Tryz.func49, Tryz.ntmps49
   go_wp2_with (go_at_call 61; refine (hsd _).mono ?_; rintro e w' ⟨rfl, n2, rfl⟩)
   go_region_held3 (fun w' => w'.cell? ⟨b, 0, none⟩ = some (.int .i64 1) /\ w'.cell? ⟨b, 1, none⟩ = some (.string P0) /\ w'.cell? ⟨b, 2, none⟩ = some (.string noText) /\ w'.cell? ⟨b, 3, none⟩ = some (.pointer (some ⟨bl, 0, none⟩)) /\ w'.cell? ⟨b, 4, none⟩ = some (.pointer (some ⟨br, 0, none⟩))) (go_keep)
     (first | (go_at_call 49; refine (hrec _).mono ?_; rintro e w3 ⟨b1, rfl, hK1, hN1, hB1⟩; have khB10:= hB1.cell (p:= ⟨b, 0, none⟩) (by first | exact cell_lt (by assumption) | exact conj_lt (by assumption)); have khB11:= hB1.cell (p:= ⟨b, 1, none⟩) (by first | exact cell_lt (by assumption) | exact conj_lt (by assumption)); have khB12:= hB1.cell (p:= ⟨b, 2, none⟩) (by first | exact cell_lt (by assumption) | exact conj_lt (by assumption)); have khB13:= hB1.cell (p:= ⟨b, 3, none⟩) (by first | exact cell_lt (by assumption) | exact conj_lt (by assumption)); have khB14:= hB1.cell (p:= ⟨b, 4, none⟩) (by first | exact cell_lt (by assumption) | exact conj_lt (by assumption))))
   have hx3 : NodeC w3 bl k2 P2 V2 l2 r2:= by
     have hy:= fun i => hB1.cell (p:= ⟨bl, i, none⟩) (by show bl < _; exact hol)
     exact ⟨(hy 0).trans o0, (hy 1).trans o1, (hy 2).trans o2, (hy 3).trans o3, (hy 4).trans o4⟩
   obtain ⟨x0, x1, x2, x3, x4⟩:= hx3
   have hB0 : Below w.heap.size w w3:= below_mono (below_drewN _ _ _) hB1
   have hAA : ∀ n : Nat, NodeC (w3.drewN n).drew bl k2 P2 V2 l2 r2:= fun n => ⟨x0, x1, x2, x3, x4⟩
   have hz0 : w.heap.size <= w3.heap.size:= hB0.size
   have hb3 : b < w3.heap.size:= by omega
   have ho3 : bl < w3.heap.size:= by omega
   have y1 : w3.cell? ⟨b, 1, none⟩ = some (.string P0):= (hB0.cell (p:= ⟨b, 1, none⟩) hb).trans h1
   have hAB : ∀ n : Nat, (w3.drewN n).drew.cell? ⟨b, 1, none⟩ = some (.string P0):= fun n => y1
   go_wp2_with fail
   have f1 : ¬ (9223372036854775807 <= m):= by omega
   have f2 : ¬ (9223372036854775807 < m + 1):= by omega
   have f3 : m < 9223372036854775807:= by omega
   have f5 : ¬ (9223372036854775807 < m + 1 + P2.size):= by omega
   have f6 : m + 1 + P2.size <= 9223372036854775807:= by omega
   go_region_held3 (fun w' => w'.cell? ⟨b, 1, none⟩ = some (.string P0) /\ w'.cell? ⟨bl, 0, none⟩ = some (.int .i64 k2) /\ w'.cell? ⟨bl, 1, none⟩ = some (.string P2) /\ w'.cell? ⟨bl, 2, none⟩ = some (.string V2) /\ w'.cell? ⟨bl, 3, none⟩ = some (.pointer l2) /\ w'.cell? ⟨bl, 4, none⟩ = some (.pointer r2)) (go_keep)
     (first
     | (go_at_call 52; refine (hsg _).mono ?_; rintro e w4 ⟨rfl, rfl⟩)
     | (go_at_call 62; refine (moved_cells2 _ _ (by assumption)).mono ?_; rintro e w5 ⟨b3, rfl, hN3, hB3⟩; have q0:= hB3.cell (p:= ⟨b, 1, none⟩) hb3; have q10:= hB3.cell (p:= ⟨bl, 0, none⟩) ho3; have q11:= hB3.cell (p:= ⟨bl, 1, none⟩) ho3; have q12:= hB3.cell (p:= ⟨bl, 2, none⟩) ho3; have q13:= hB3.cell (p:= ⟨bl, 3, none⟩) ho3; have q14:= hB3.cell (p:= ⟨bl, 4, none⟩) ho3))
   go_wp2_with fail
   go_ret
   exact ⟨b3, rfl, hN3, below_mono hB0 (below_mono (below_drewN _ _ _) hB3)⟩
 | false =>
   simp only [bit, Bool.false_eq_true, if_false] at hsd
   simp only [pick, ptr, Bool.false_eq_true, if_false] at hrec h3 h4 o0 o1 o2 o3 o4 ⊢
   have hx : NodeC w br k2 P2 V2 l2 r2:= ⟨o0, o1, o2, o3, o4⟩
   have hol : br < w.heap.size:= cell_lt o0
   go_enter Tryz.func49, Tryz.ntmps49
   go_wp2_with (go_at_call 61; refine (hsd _).mono ?_; rintro e w' ⟨rfl, n2, rfl⟩)
   go_region_held3 (fun w' => w'.cell? ⟨b, 0, none⟩ = some (.int .i64 1) /\ w'.cell? ⟨b, 1, none⟩ = some (.string P0) /\ w'.cell? ⟨b, 2, none⟩ = some (.string noText) /\ w'.cell? ⟨b, 3, none⟩ = some (.pointer (some ⟨bl, 0, none⟩)) /\ w'.cell? ⟨b, 4, none⟩ = some (.pointer (some ⟨br, 0, none⟩))) (go_keep)
     (first | (go_at_call 49; refine (hrec _).mono ?_; rintro e w3 ⟨b1, rfl, hK1, hN1, hB1⟩; have khB10:= hB1.cell (p:= ⟨b, 0, none⟩) (by first | exact cell_lt (by assumption) | exact conj_lt (by assumption)); have khB11:= hB1.cell (p:= ⟨b, 1, none⟩) (by first | exact cell_lt (by assumption) | exact conj_lt (by assumption)); have khB12:= hB1.cell (p:= ⟨b, 2, none⟩) (by first | exact cell_lt (by assumption) | exact conj_lt (by assumption)); have khB13:= hB1.cell (p:= ⟨b, 3, none⟩) (by first | exact cell_lt (by assumption) | exact conj_lt (by assumption)); have khB14:= hB1.cell (p:= ⟨b, 4, none⟩) (by first | exact cell_lt (by assumption) | exact conj_lt (by assumption))))
   have hx3 : NodeC w3 br k2 P2 V2 l2 r2:= by
     have hy:= fun i => hB1.cell (p:= ⟨br, i, none⟩) (by show br < _; exact hol)
     exact ⟨(hy 0).trans o0, (hy 1).trans o1, (hy 2).trans o2, (hy 3).trans o3, (hy 4).trans o4⟩
   obtain ⟨x0, x1, x2, x3, x4⟩:= hx3
   have hB0 : Below w.heap.size w w3:= below_mono (below_drewN _ _ _) hB1
   have hAA : ∀ n : Nat, NodeC (w3.drewN n).drew br k2 P2 V2 l2 r2:= fun n => ⟨x0, x1, x2, x3, x4⟩
   have hz0 : w.heap.size <= w3.heap.size:= hB0.size
   have hb3 : b < w3.heap.size:= by omega
   have ho3 : br < w3.heap.size:= by omega
   have y1 : w3.cell? ⟨b, 1, none⟩ = some (.string P0):= (hB0.cell (p:= ⟨b, 1, none⟩) hb).trans h1
   have hAB : ∀ n : Nat, (w3.drewN n).drew.cell? ⟨b, 1, none⟩ = some (.string P0):= fun n => y1
   go_wp2_with fail
   have f1 : ¬ (9223372036854775807 <= m):= by omega
   have f2 : ¬ (9223372036854775807 < m + 1):= by omega
   have f3 : m < 9223372036854775807:= by omega
   have f5 : ¬ (9223372036854775807 < m + 1 + P2.size):= by omega
   have f6 : m + 1 + P2.size <= 9223372036854775807:= by omega
   go_region_held3 (fun w' => w'.cell? ⟨b, 1, none⟩ = some (.string P0) /\ w'.cell? ⟨br, 0, none⟩ = some (.int .i64 k2) /\ w'.cell? ⟨br, 1, none⟩ = some (.string P2) /\ w'.cell? ⟨br, 2, none⟩ = some (.string V2) /\ w'.cell? ⟨br, 3, none⟩ = some (.pointer l2) /\ w'.cell? ⟨br, 4, none⟩ = some (.pointer r2)) (go_keep)
     (first
     | (go_at_call 52; refine (hsg _).mono ?_; rintro e w4 ⟨rfl, rfl⟩)
     | (go_at_call 62; refine (moved_cells2 _ _ (by assumption)).mono ?_; rintro e w5 ⟨b3, rfl, hN3, hB3⟩; have q0:= hB3.cell (p:= ⟨b, 1, none⟩) hb3; have q10:= hB3.cell (p:= ⟨br, 0, none⟩) ho3; have q11:= hB3.cell (p:= ⟨br, 1, none⟩) ho3; have q12:= hB3.cell (p:= ⟨br, 2, none⟩) ho3; have q13:= hB3.cell (p:= ⟨br, 3, none⟩) ho3; have q14:= hB3.cell (p:= ⟨br, 4, none⟩) ho3))
   go_wp2_with fail
   go_ret
   exact ⟨b3, rfl, hN3, below_mono hB0 (below_mono (below_drewN _ _ _) hB3)⟩
variable {dg : DG}
structure Has (t : T ByteArray) (q : Bits) : Prop where
 rep : ∃ L, Rep L t /\ (∃ x, x ∈ L /\ x.1 = q) /\ ∀ x, x ∈ L -> x.1.length <= 1000
theorem path_short {t : T ByteArray} {L : List (Bits × ByteArray)} (h : Rep L t) (hne : L ≠ []) (hs : ∀ x, x ∈ L -> x.1.length <= 1000) : t.path.length <= 1000:= by
 obtain ⟨x, hx⟩:= rep_ne h hne
 obtain ⟨y, hy⟩:= rep_mem_path h x hx
 have:= hs x hx
 rw [hy] at this
 simp at this; omega
theorem Has.side {p : Bits} {l r : T ByteArray} {q : Bits} (h : Has (.branch p l r) q) : ∃ s q2, q = p ++ s :: q2 /\ Has (if s then r else l) q2 /\ (if s then l else r).path.length <= 1000 /\ (if s then l else r).isEmpty = false /\ (if s then r else l).isEmpty = false /\ p.length <= 1000 /\ q2.length <= 1000:= by
 obtain ⟨L, hL, ⟨x, hx, rfl⟩, hs⟩:= h
 have hq:= hs x hx
 cases hL with
 | @branch l0 l1 _ _ _ h0 h1 a0 a1 =>
   have hs0 : ∀ y, y ∈ l0 -> y.1.length <= 1000:= fun y hy => by
     have:= hs _ (List.mem_append_left _ (List.mem_map.2 ⟨y, hy, rfl⟩))
     simp [pre] at this; omega
   have hs1 : ∀ y, y ∈ l1 -> y.1.length <= 1000:= fun y hy => by
     have:= hs _ (List.mem_append_right _ (List.mem_map.2 ⟨y, hy, rfl⟩))
     simp [pre] at this; omega
   have n0 : l.isEmpty = false:= by
     cases e : l.isEmpty with
     | false => rfl
     | true => exact absurd ((rep_isEmpty a0).1 e) h0
   have n1 : r.isEmpty = false:= by
     cases e : r.isEmpty with
     | false => rfl
     | true => exact absurd ((rep_isEmpty a1).1 e) h1
   rcases List.mem_append.1 hx with h | h
   . obtain ⟨y, hy, rfl⟩:= List.mem_map.1 h
     refine ⟨false, y.1, by simp [pre], ⟨l0, a0, ⟨y, hy, rfl⟩, hs0⟩, path_short a1 h1 hs1, n1, n0, ?_, hs0 y hy⟩
     simp [pre] at hq; omega
   . obtain ⟨y, hy, rfl⟩:= List.mem_map.1 h
     refine ⟨true, y.1, by simp [pre], ⟨l1, a1, ⟨y, hy, rfl⟩, hs1⟩, path_short a0 h0 hs0, n0, n1, ?_, hs1 y hy⟩
     simp [pre] at hq; omega
theorem TAt.kind {w : World} {t : T ByteArray} {b : Nat} (h : TAt dg w t b) : w.cell? ⟨b, 0, none⟩ = some (.int .i64 t.tr.kind):= by
 obtain ⟨l, r, d, s, h, _⟩:= TAt.node h
 exact (NodeAt.cells h).1
theorem without_any : ∀ (t : T ByteArray) (q : Bits) (w : World) (b : Nat), Has t q -> TAt dg w t b ->
   Calls Tryz.prog 49 #[.pointer (ptr b), .string (str q)] w fun e w' => ∃ b', e = .returned (.pointer (ptr b')) /\ TAt dg w' (t.wo q) b' /\ Below w.heap.size w w'
 | .empty, q, w, b, hF, hT => by
   obtain ⟨L, hL, ⟨x, hx, _⟩, _⟩:= hF
   cases hL
   cases hx
 | .leaf p z, q, w, b, hF, hT => by
   obtain ⟨_, d, s, h, _⟩:= hT
   refine (without_leaf h).mono ?_
   rintro e w' ⟨b', rfl, h1, h2⟩
   exact ⟨b', rfl, ⟨trivial, 0, false, h1, fun e => by cases e⟩, h2⟩
 | .branch p l r, q, w, b, hF, hT => by
   obtain ⟨s, q2, rfl, hside, hop, hone, hcne, hp1, hq1⟩:= hF.side
   obtain ⟨_, bl, br, d, sl, h1, h2, h3, h4⟩:= hT
   have hsz : (str (p ++ s :: q2)).size = p.length + (q2.length + 1):= by rw [str_size]; simp
   have hsz2 : (str p).size = p.length:= str_size p
   have hsz3 : (str (s :: q2)).size = q2.length + 1:= by rw [str_size]; simp
   have e1 : (str (p ++ s :: q2)).extract p.length (p.length + (q2.length + 1)) = str (s :: q2):= str_off rfl rfl
   have e3 : (str (s :: q2)).extract 1 (q2.length + 1) = str q2:= str_off (q:= [s]) (r:= q2) rfl (by simp; omega)
   have hrec : ∀ n, Calls Tryz.prog 49 #[.pointer (ptr (pick s bl br)), .string (str q2)] (w.drewN n) fun e w' => ∃ b', e = .returned (.pointer (ptr b')) /\ w'.cell? ⟨b', 0, none⟩ = some (.int .i64 ((if s then r else l).wo q2).tr.kind) /\ (TAt dg w' ((if s then r else l).wo q2) b' /\ Below w.heap.size w w') /\ Below (w.drewN n).heap.size (w.drewN n) w':= by
     intro n
     have hB:= below_drewN w.heap.size w n
     cases s with
     | true =>
       refine (without_any r q2 (w.drewN n) br hside (TAt.below h3 hB)).mono ?_
       rintro e w' ⟨b', rfl, k1, k2⟩
       exact ⟨b', rfl, TAt.kind k1, ⟨k1, below_mono hB k2⟩, k2⟩
     | false =>
       refine (without_any l q2 (w.drewN n) bl hside (TAt.below h2 hB)).mono ?_
       rintro e w' ⟨b', rfl, k1, k2⟩
       exact ⟨b', rfl, TAt.kind k1, ⟨k1, below_mono hB k2⟩, k2⟩
   have hwo : (T.branch p l r).wo (p ++ s :: q2) = if ((if s then r else l).wo q2).isEmpty then (if s then l else r).moved (p ++ [!s] ++ (if s then l else r).path) else if s then .branch p l (r.wo q2) else .branch p (l.wo q2) r:= by
     simp only [T.wo, drop_app]
     cases s <;> rfl
   rw [hwo]
   cases he : ((if s then r else l).wo q2).isEmpty with
   | true =>
     rw [if_pos rfl]
     have hk : ((if s then r else l).wo q2).tr.kind = 2:= by
       cases h : (if s then r else l).wo q2 with
       | empty => rfl
       | leaf _ _ => rw [h] at he; cases he
       | branch _ _ _ => rw [h] at he; cases he
     rw [hk] at hrec
     have hOT : TAt dg w (if s then l else r) (pick s br bl):= by cases s with
       | true => exact h2
       | false => exact h3
     obtain ⟨l2, r2, d2, s2, hO, hmv⟩:= TAt.node hOT
     refine (without_gone (s:= s) (m:= p.length) (a:= q2.length) (SG:= str [!s]) h1 (by rw [str_size]; exact hop) (by rw [str_size]; rfl) (fun w1 => sign_any (!s) w1) hO hp1 hsz hsz2 hsz3 (fun w1 => sideOf_any s q2 w1) e1 e3 hrec).mono ?_
     rintro e w' ⟨b', rfl, k1, k2⟩
     rw [str_append, str_append] at k1
     refine ⟨b', rfl, ?_, k2⟩
     rcases hmv _ w' b' k2 k1 with h | h
     . rw [hone] at h; exact h
     . rw [hone] at h; cases h
   | false =>
     rw [if_neg (by decide)]
     refine (without_down (s:= s) (m:= p.length) (a:= q2.length) h1 (kind_ne he) hp1 hsz hsz2 hsz3 (fun w1 => sideOf_any s q2 w1) e1 e3 hrec).mono ?_
     rintro e w' ⟨b', c, w2, rfl, k1, ⟨k2, k3⟩, k4, k5⟩
     refine ⟨b', rfl, ?_, k5⟩
     cases s with
     | true => exact tat_branch k1 (TAt.below h2 k5) (TAt.below k2 k4)
     | false => exact tat_branch k1 (TAt.below k2 k4) (TAt.below h3 k5)
end Go.Proofs.YtddcbeeldjjmeaaGreat
