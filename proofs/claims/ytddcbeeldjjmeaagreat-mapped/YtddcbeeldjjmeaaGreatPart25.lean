/- WHERE BITS LEAD, made alone. -/
import Derived.Test.YtddcbeeldjjmeaaGreatPart24
import Derived.Lib.Strings
namespace Go.Proofs.YtddcbeeldjjmeaaGreat
open Go Go.RowKit Go.Nest Go.Tm
set_option linter.unusedVariables false
set_option linter.unusedSimpArgs false
set_option maxRecDepth 20000 in
set_option maxHeartbeats 4000000 in
theorem prefix_raw {s1 s2 X : ByteArray} {a c : Nat} {r : Bool} (w : World) (h1 : s1.size = a) (h2 : s2.size = c) (hs : s1.size <= 100000) (hle : c <= a) (hx : s1.extract 0 c = X) (hr : (X = s2) ↔ r = true) :
   Calls Tryz.prog 87 #[.string s1, .string s2] w fun e w' => e = .returned (.bool r) /\ w' = w:= by
 have i0 : (c : Int) <= (a : Int):= by omega
 have i1 : decide ((c : Int) <= (a : Int)) = true:= decide_eq_true (by omega)
 have i2 : decide ((a : Int) ≥ (c : Int)) = true:= decide_eq_true (by omega)
 have hl : (X.toList == s2.toList) = r:= by
   rw [Lib.toList_data, Lib.toList_data]
   cases r with
   | true => rw [hr.2 rfl]; exact beq_self_eq_true _
   | false => exact beq_eq_false_iff_ne.2 fun e => by cases hr.1 (bytes_ext e)
 go_enter Tryz.func87, Tryz.ntmps87
 go_wp2
 go_ret
 exact ⟨rfl, rfl⟩
set_option maxRecDepth 20000 in
set_option maxHeartbeats 4000000 in
theorem prefix_raw' {s1 s2 : ByteArray} {a c : Nat} (w : World) (h1 : s1.size = a) (h2 : s2.size = c) (hlt : a < c) :
   Calls Tryz.prog 87 #[.string s1, .string s2] w fun e w' => e = .returned (.bool false) /\ w' = w:= by
 have i0 : ¬ (c : Int) <= (a : Int):= by omega
 have i1 : decide ((c : Int) <= (a : Int)) = false:= decide_eq_false (by omega)
 have i2 : decide ((a : Int) ≥ (c : Int)) = false:= decide_eq_false (by omega)
 go_enter Tryz.func87, Tryz.ntmps87
 go_wp2
 go_ret
 exact ⟨rfl, rfl⟩
theorem isPre {p q : Bits} : str q = str p ↔ q = p:= ⟨str_inj, fun e => by rw [e]⟩
theorem take_pre {p q : Bits} : (q.take p.length = p) ↔ p <+: q:= by
 constructor
 . intro h; exact ⟨q.drop p.length, by conv => lhs; lhs; rw [<- h]
                                       exact List.take_append_drop _ _⟩
 . rintro ⟨x, rfl⟩; simp
theorem prefix_any (q p : Bits) (w : World) (hq : q.length <= 1000) :
   Calls Tryz.prog 87 #[.string (str q), .string (str p)] w fun e w' => e = .returned (.bool (decide (p <+: q))) /\ w' = w:= by
 by_cases h : p.length <= q.length
 . refine prefix_raw (X:= str (q.take p.length)) w (str_size q) (str_size p) (by rw [str_size]; omega) h (str_take q _) ?_
   rw [isPre, take_pre]; simp
 . have hn : ¬ p <+: q:= fun hp => h hp.length_le
   rw [decide_eq_false hn]
   exact prefix_raw' w (str_size q) (str_size p) (by omega)
set_option maxHeartbeats 2000000 in
theorem hasPrefix_any (q p : Bits) (w : World) (hq : q.length <= 1000) :
   Calls Tryz.prog 68 #[.string (str q), .string (str p)] w fun e w' => e = .returned (.bool (decide (p <+: q))) /\ w' = w:= by
 have h:= prefix_any q p w hq
 generalize str q = s1 at h ⊢
 generalize str p = s2 at h ⊢
 go_enter Tryz.func68, Tryz.ntmps68
 go_wp2_with (go_at_call 87; refine h.mono ?_; rintro e w' ⟨rfl, rfl⟩)
 go_ret
 exact ⟨rfl, rfl⟩
set_option maxRecDepth 20000 in
set_option maxHeartbeats 2000000 in
theorem leads_raw {w : World} {b : Nat} {P0 V0 S0 : ByteArray} {l r : Option Addr} {d : Int} {sl u : Bool} (hN : NodeAt ndT w b 1 P0 V0 l r d sl)
   (hp : ∀ w, Calls Tryz.prog 68 #[.string S0, .string P0] w fun e w' => e = .returned (.bool u) /\ w' = w) :
   Calls Tryz.prog 53 #[.pointer (some ⟨b, 0, none⟩), .string S0] w fun e w' => e = .returned (.bool u) /\ ∃ n, w' = w.drewN n:= by
 obtain ⟨h0, h1, h2, h3, h4, h5⟩:= NodeAt.cells hN
 have hb:= NodeAt.lt hN
 go_enter Tryz.func53, Tryz.ntmps53
 go_wp2_with (go_at_call 68; refine (hp _).mono ?_; rintro e w' ⟨rfl, rfl⟩)
 go_ret
 exact ⟨rfl, 0, rfl⟩
set_option maxRecDepth 20000 in
set_option maxHeartbeats 2000000 in
theorem leads_raw' {w : World} {b : Nat} {k : Int} {P0 V0 S0 : ByteArray} {l r : Option Addr} {d : Int} {sl : Bool} (hN : NodeAt ndT w b k P0 V0 l r d sl) (hk : ¬ k = 1) :
   Calls Tryz.prog 53 #[.pointer (some ⟨b, 0, none⟩), .string S0] w fun e w' => e = .returned (.bool false) /\ ∃ n, w' = w.drewN n:= by
 obtain ⟨h0, h1, h2, h3, h4, h5⟩:= NodeAt.cells hN
 have hb:= NodeAt.lt hN
 have hk2 : decide (k = 1) = false:= decide_eq_false hk
 have hk1 : (k == 1) = false:= by simpa using hk
 go_enter Tryz.func53, Tryz.ntmps53
 go_wp2_with fail
 go_ret
 exact ⟨rfl, 0, rfl⟩
set_option maxRecDepth 20000 in
set_option maxHeartbeats 4000000 in
theorem below_raw {w : World} {b : Nat} {P0 S0 R0 Y0 : ByteArray} {bl br : Nat} {d : Int} {sl s : Bool} {m a : Nat} (hN : NodeAt ndT w b 1 P0 noText (ptr bl) (ptr br) d sl) (hm : m <= 1000)
   (hsz : S0.size = m + (a + 1)) (hsz2 : P0.size = m) (hsz3 : R0.size = a + 1)
   (hsd : ∀ w, Calls Tryz.prog 61 #[.string R0] w fun e w' => e = .returned (.int .i64 (bit s)) /\ ∃ n, w' = w.drewN n)
   (e1 : S0.extract m (m + (a + 1)) = R0) (e3 : R0.extract 1 (a + 1) = Y0) :
   Calls Tryz.prog 54 #[.pointer (some ⟨b, 0, none⟩), .string S0] w fun e w' => e = .returned (.tuple #[.pointer (ptr (pick s bl br)), .string Y0]) /\ ∃ n, w' = w.drewN n:= by
 obtain ⟨h0, h1, h2, h3, h4, h5⟩:= NodeAt.cells hN
 have hb:= NodeAt.lt hN
 have i0 : (0 : Int) <= (m : Int):= by omega
 have i1 : (m : Int) <= (S0.size : Int):= by omega
 have i2 : (m : Int) <= ((m + (a + 1) : Nat) : Int):= by omega
 have i3 : (m : Int) <= (m : Int) + ((a : Int) + 1):= by omega
 have j1 : (1 : Int) <= (R0.size : Int):= by omega
 have j2 : (1 : Int) <= ((a + 1 : Nat) : Int):= by omega
 have j3 : (1 : Int) <= (a : Int) + 1:= by omega
 have u1 : IntKind.i64.wrap 1 = 1:= rfl
 have u0 : IntKind.i64.wrap 0 = 0:= rfl
 cases s with
 | true =>
   simp only [bit, if_true] at hsd
   simp only [pick, if_true]
   go_enter Tryz.func54, Tryz.ntmps54
   go_wp2
   go_region_held3 (fun w' => w'.cell? ⟨b, 0, none⟩ = some (.int .i64 1) /\ w'.cell? ⟨b, 1, none⟩ = some (.string P0) /\ w'.cell? ⟨b, 2, none⟩ = some (.string noText) /\ w'.cell? ⟨b, 3, none⟩ = some (.pointer (ptr bl)) /\ w'.cell? ⟨b, 4, none⟩ = some (.pointer (ptr br))) (go_keep)
     (first | (go_at_call 61; refine (hsd _).mono ?_; rintro e w' ⟨rfl, n2, rfl⟩))
   go_wp2
   exact bodyPost_ret (v:= .tuple #[.pointer (ptr br), .string Y0]) (by simp [results, Tryz.results54, go_sem]; try rfl) rfl ⟨rfl, _, rfl⟩
 | false =>
   simp only [bit, Bool.false_eq_true, if_false] at hsd
   simp only [pick, Bool.false_eq_true, if_false]
   go_enter Tryz.func54, Tryz.ntmps54
   go_wp2
   go_region_held3 (fun w' => w'.cell? ⟨b, 0, none⟩ = some (.int .i64 1) /\ w'.cell? ⟨b, 1, none⟩ = some (.string P0) /\ w'.cell? ⟨b, 2, none⟩ = some (.string noText) /\ w'.cell? ⟨b, 3, none⟩ = some (.pointer (ptr bl)) /\ w'.cell? ⟨b, 4, none⟩ = some (.pointer (ptr br))) (go_keep)
     (first | (go_at_call 61; refine (hsd _).mono ?_; rintro e w' ⟨rfl, n2, rfl⟩))
   go_wp2
   exact bodyPost_ret (v:= .tuple #[.pointer (ptr bl), .string Y0]) (by simp [results, Tryz.results54, go_sem]; try rfl) rfl ⟨rfl, _, rfl⟩
variable {dg : DG}
theorem undrewN (B : Nat) (w : World) (n : Nat) : Below B (w.drewN n) w:= ⟨rfl, rfl, rfl, Nat.le_refl _, fun _ _ => rfl⟩
def goes : T ByteArray -> Bits -> Bool
 | .branch p _ _, q => decide (p <+: q)
 | _, _ => false
theorem leads_any {t : T ByteArray} {q : Bits} {w : World} {b : Nat} (hT : TAt dg w t b) (hl : q.length <= 1000) :
   Calls Tryz.prog 53 #[.pointer (ptr b), .string (str q)] w fun e w' => e = .returned (.bool (goes t q)) /\ ∃ n, w' = w.drewN n:= by
 cases t with
 | empty => obtain ⟨_, d, s, h, _⟩:= hT; exact leads_raw' h (by decide)
 | leaf p v => obtain ⟨_, d, s, h, _⟩:= hT; exact leads_raw' h (fun e => by cases e)
 | branch p l r => obtain ⟨_, bl, br, d, s, h, _⟩:= hT; exact leads_raw h fun w1 => hasPrefix_any q p w1 hl
theorem below_any {p q2 : Bits} {l r : T ByteArray} {s : Bool} {w : World} {b : Nat} (hT : TAt dg w (.branch p l r) b) (hl : (p ++ s :: q2).length <= 1000) :
   Calls Tryz.prog 54 #[.pointer (ptr b), .string (str (p ++ s :: q2))] w fun e w' => ∃ c, e = .returned (.tuple #[.pointer (ptr c), .string (str q2)]) /\ TAt dg w (if s then r else l) c /\ ∃ n, w' = w.drewN n:= by
 obtain ⟨_, bl, br, d, sl, h1, h2, h3, h4⟩:= hT
 refine (below_raw (P0:= str p) (S0:= str (p ++ s :: q2)) (R0:= str (s :: q2)) (Y0:= str q2) (m:= p.length) (a:= q2.length) (s:= s) h1 ?_ ?_ (str_size p) ?_ (fun w1 => sideOf_any s q2 w1) (str_off rfl rfl) (str_off (q:= [s]) (r:= q2) rfl (by simp; omega))).mono ?_
 . simp at hl; omega
 . rw [str_size]; simp
 . rw [str_size]; simp
 . rintro e w' ⟨rfl, n, rfl⟩
   refine ⟨pick s bl br, rfl, ?_, n, rfl⟩
   cases s with
   | true => exact h3
   | false => exact h2
theorem get_down (p q2 : Bits) (s : Bool) (l r : T ByteArray) : (T.branch p l r).get (p ++ s :: q2) = (if s then r else l).get q2:= by
 simp only [T.get]
 rw [if_pos ⟨s :: q2, rfl⟩, drop_app]
 cases s <;> rfl
def strSize : Value -> Nat
 | .string s => s.size
 | _ => 0
set_option maxRecDepth 20000 in
set_option maxHeartbeats 4000000 in
theorem find_any {t : T ByteArray} {q : Bits} {w : World} {b : Nat} (hF : Fits t q) (hT : TAt dg w t b) :
   Calls Tryz.prog 44 #[.pointer (ptr b), .string (str q)] w fun e w' => ∃ t' q' b', e = .returned (.tuple #[.pointer (ptr b'), .string (str q')]) /\ Fits t' q' /\ TAt dg w t' b' /\ t'.get q' = t.get q /\ goes t' q' = false /\ ∃ n, w' = w.drewN n:= by
 go_enter Tryz.func44, Tryz.ntmps44
 go_wp2
 go_loopw [0, 1] (fun n s wr => ∃ t' q' b' k, n = .pointer (ptr b') /\ s = .string (str q') /\ Fits t' q' /\ TAt dg w t' b' /\ t'.get q' = t.get q /\ wr = w.drewN k) (fun _ s _ => strSize s)
 case atStart => exact ⟨t, q, b, 0, rfl, rfl, hF, hT, rfl, rfl⟩
 case round =>
   obtain ⟨t', q', b', k, rfl, rfl, hF', hT', hg, rfl⟩:= hrel
   have hTk : ∀ n, TAt dg (w.drewN n) t' b':= fun n => TAt.below hT' (below_drewN _ _ _)
   cases hgo : goes t' q' with
   | true =>
     cases t' with
     | empty => cases hgo
     | leaf _ _ => cases hgo
     | branch p l r =>
       have hpre : p <+: q':= of_decide_eq_true hgo
       rcases hF'.stand rfl with ⟨_, _, e, _⟩ | ⟨_, _, _, s, q2, e, rfl⟩ | ⟨q1, s, x, y, e1, e2⟩
       . cases e
       . cases e
         go_wp2_with (first
           | (go_at_call 53; refine (leads_any (hTk _) hF'.short).mono ?_; rw [hgo]; rintro e w' ⟨rfl, n1, rfl⟩)
           | (go_at_call 54; refine (below_any (hTk _) hF'.short).mono ?_; rintro e w' ⟨c, rfl, hc, n2, rfl⟩))
         go_roundw
         case rel => exact ⟨_, q2, c, _, rfl, rfl, hF'.side, TAt.below hc (undrewN _ _ _), by rw [<- hg, get_down], rfl⟩
         case measure => simp only [strSize, str_size]; simp; omega
       . exfalso
         obtain ⟨z, hz⟩:= hpre
         simp only [T.path] at e1
         rw [e1, e2] at hz
         simp at hz
   | false =>
     go_wp2_with (first
       | (go_at_call 53; refine (leads_any (hTk _) hF'.short).mono ?_; rw [hgo]; rintro e w' ⟨rfl, n1, rfl⟩))
     exact bodyPost_ret (v:= .tuple #[.pointer (ptr b'), .string (str q')]) (by simp [results, Tryz.results44, go_sem]; try rfl) rfl ⟨t', q', b', rfl, hF', hT', hg, hgo, _, rfl⟩
def gotten : Option ByteArray -> Value
 | some v => .tuple #[.string v, .bool true]
 | none => .tuple #[.string noText, .bool false]
variable {dg : DG}
theorem bottom_is {t : T ByteArray} {q : Bits} {w : World} {b : Nat} (hT : TAt dg w t b) (hgo : goes t q = false) :
   (∃ k : Int, w.cell? ⟨b, 0, none⟩ = some (.int .i64 k) /\ ¬ k = 0 /\ (k != 0) = true /\ t.get q = none) \/
   (∃ p v : ByteArray, w.cell? ⟨b, 0, none⟩ = some (.int .i64 0) /\ w.cell? ⟨b, 1, none⟩ = some (.string p) /\ (p.toList == (str q).toList) = false /\ (¬ p.toList = (str q).toList) /\ t.get q = none) \/
   (∃ v : ByteArray, w.cell? ⟨b, 0, none⟩ = some (.int .i64 0) /\ w.cell? ⟨b, 1, none⟩ = some (.string (str q)) /\ w.cell? ⟨b, 2, none⟩ = some (.string v) /\ t.get q = some v):= by
 cases t with
 | empty =>
   obtain ⟨_, d, s, h, _⟩:= hT
   obtain ⟨h0, h1, h2, h3, h4, h5⟩:= NodeAt.cells h
   exact .inl ⟨2, h0, by decide, rfl, rfl⟩
 | branch p l r =>
   obtain ⟨_, bl, br, d, s, h, _⟩:= hT
   obtain ⟨h0, h1, h2, h3, h4, h5⟩:= NodeAt.cells h
   refine .inl ⟨1, h0, by decide, rfl, ?_⟩
   simp only [T.get]
   exact if_neg (of_decide_eq_false hgo)
 | leaf p v =>
   obtain ⟨_, d, s, h, _⟩:= hT
   obtain ⟨h0, h1, h2, h3, h4, h5⟩:= NodeAt.cells h
   by_cases e : p = q
   . subst e
     refine .inr (.inr ⟨v, h0, h1, h2, ?_⟩)
     simp [T.get]
   . have hn : ¬ (str p).toList = (str q).toList:= by
       rw [Lib.toList_data, Lib.toList_data]
       exact fun h => e (str_inj (bytes_ext h))
     refine .inr (.inl ⟨str p, v, h0, h1, beq_eq_false_iff_ne.2 hn, hn, ?_⟩)
     simp [T.get, e]
set_option maxRecDepth 20000 in
set_option maxHeartbeats 4000000 in
theorem get_any {t : T ByteArray} {q : Bits} {w : World} {b : Nat} (hF : Fits t q) (hT : TAt dg w t b) :
   Calls Tryz.prog 31 #[.pointer (ptr b), .string (str q)] w fun e w' => e = .returned (gotten (t.get q)) /\ ∃ n, w' = w.drewN n:= by
 go_enter Tryz.func31, Tryz.ntmps31
 go_wp2_with (go_at_call 44; refine (find_any hF hT).mono ?_; rintro e w' ⟨t', q', b', rfl, hF', hT', hg, hgo, n, rfl⟩; have hx:= bottom_is (TAt.below hT' (below_drewN w.heap.size w n)) hgo; rw [hg] at hx; clear hF' hT' hg hgo; simp only [ptr]; rcases hx with ⟨k, g1, g2, g3, hO⟩ | ⟨p, v, g1, g2, g3, g4, hO⟩ | ⟨v, g1, g2, g3, hO⟩)
 . exact bodyPost_ret (v:= .tuple #[.string noText, .bool false]) (by simp [results, Tryz.results31, go_sem]; try rfl) rfl ⟨by rw [hO]; rfl, _, rfl⟩
 . exact bodyPost_ret (v:= .tuple #[.string noText, .bool false]) (by simp [results, Tryz.results31, go_sem]; try rfl) rfl ⟨by rw [hO]; rfl, _, rfl⟩
 . exact bodyPost_ret (v:= .tuple #[.string v, .bool true]) (by simp [results, Tryz.results31, go_sem]; try rfl) rfl ⟨by rw [hO]; rfl, _, rfl⟩
set_option maxHeartbeats 1000000 in
theorem digest_any {t : T ByteArray} {w : World} {b : Nat} {k d : Int} {p v : ByteArray} {l r : Option Addr} {s : Bool} (hN : NodeAt ndT w b k p v l r d s) :
   Calls Tryz.prog 27 #[.pointer (ptr b)] w fun e w' => e = .returned (.int .i64 d) /\ w' = w:= by
 obtain ⟨h0, h1, h2, h3, h4, h5⟩:= NodeAt.cells hN
 have hb:= NodeAt.lt hN
 simp only [ptr]
 go_enter Tryz.func27, Tryz.ntmps27
 go_wp2_with fail
 go_ret
 exact ⟨rfl, rfl⟩
end Go.Proofs.YtddcbeeldjjmeaaGreat
