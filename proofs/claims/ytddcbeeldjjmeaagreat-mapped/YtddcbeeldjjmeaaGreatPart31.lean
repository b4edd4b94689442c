/- THE LAW's ROWS OF PAIRS, alone: with one. -/
import Derived.Test.YtddcbeeldjjmeaaGreatPart30
import Derived.Laws.AppendOwnNone
namespace Go.Proofs.YtddcbeeldjjmeaaGreat
open Go Go.RowKit Go.Nest Go.Tm Go.Proofs.YtddcbeeldjjmeaaGreat.Tw Go.Maps
set_option linter.unusedVariables false
set_option linter.unusedSimpArgs false
theorem prCs_one (l : List (ByteArray × ByteArray)) : ∀ u ∈ prCs l, u.oneCell' = true:= by
 intro u hu
 obtain ⟨c, hc, hu⟩:= List.mem_flatten.1 hu
 obtain ⟨z, _, rfl⟩:= List.mem_map.1 hc
 simp [prC] at hu
 rcases hu with rfl | rfl <;> rfl
theorem prCs_app (a b : List (ByteArray × ByteArray)) : prCs (a ++ b) = prCs a ++ prCs b:= by simp [prCs]
theorem prCs_split (os : List (ByteArray × ByteArray)) (j : Nat) : prCs os = prCs (os.take j) ++ prCs (os.drop j):= by rw [<- prCs_app, List.take_append_drop]
theorem add_zero' (g k : Nat) : (⟨g, 0, none⟩ : Addr).add k = ⟨g, k, none⟩:= by
 unfold Addr.add
 by_cases h0 : k = 0
 . rw [if_pos h0, h0]
 . rw [if_neg h0]; simp
theorem add_any (g q k : Nat) : (⟨g, q, none⟩ : Addr).add k = ⟨g, q + k, none⟩:= by
 unfold Addr.add
 by_cases h0 : k = 0
 . rw [if_pos h0, h0]; simp
 . rw [if_neg h0]
theorem ownsRow_base {w : World} {b b' : Nat} {e : TypeId} {size : Nat} {v : Value} {n : Nat} {xs : List Value} (h : w.ownsRow b e size v n xs) (hb : b' <= b) : w.ownsRow b' e size v n xs:= by
 obtain ⟨h1, h2 | ⟨g, cap, cur, hv, hg, hr⟩⟩:= h
 . exact ⟨h1, .inl h2⟩
 . exact ⟨h1, .inr ⟨g, cap, cur, hv, Nat.le_trans hb hg, hr⟩⟩
theorem new_cell (w : World) (cs : Array Value) (ty : TypeId) (j : Nat) (u : Value) (h : cs[j]? = some u) : (w.alloc (.cells cs ty)).cell? ⟨w.heap.size, j, none⟩ = some u:= by
 simp only [World.cell?, heap_alloc_new]; exact h
set_option maxRecDepth 20000 in
set_option maxHeartbeats 8000000 in
theorem put_raw {w : World} {v : Value} {x y : ByteArray} {os : List (ByteArray × ByteArray)} {n : Nat} {at' : Nat} (hn : os.length = n) (hn2 : n <= 50000) (hat : at' <= n)
   (hlt : ∀ i (h : i < os.length), i < at' -> Op.bytesLess os[i].1.toList x.toList = true) (hge : ∀ (h : at' < os.length), Op.bytesLess os[at'].1.toList x.toList = false)
   (hwo : ∀ w1, Below w.heap.size w w1 -> Calls Tryz.prog 18 #[v, .string x] w1 fun e w' => ∃ v', e = .returned v' /\ OwnP w1.heap.size w' v' os /\ Below w1.heap.size w1 w') :
   Calls Tryz.prog 16 #[v, .agg #[.string x, .string y]] w fun e w' => ∃ v', e = .returned v' /\ OwnP w.heap.size w' v' (os.take at' ++ (x, y) :: os.drop at') /\ Below w.heap.size w w':= by
 obtain ⟨i0, hi, hz0, hz1, hz2⟩:= info_parts pinfo
 have hB0 : ∀ o, Below w.heap.size w (w.alloc o):= fun o => (Below.refl _ w).alloc (Nat.le_refl _) _
 have hwo':= fun o => hwo (w.alloc o) (hB0 o)
 go_enter Tryz.func16, Tryz.ntmps16
 go_wp2_with (go_at_call 18; refine (hwo' _).mono ?_; rintro e w2 ⟨v2, rfl, hO2, hB2⟩)
 have hx0:= (hB2.cell (p:= ⟨w.heap.size, 0, none⟩) (by show w.heap.size < _; simp)).trans (new_cell w _ _ 0 (.string x) rfl)
 have hx1:= (hB2.cell (p:= ⟨w.heap.size, 1, none⟩) (by show w.heap.size < _; simp)).trans (new_cell w _ _ 1 (.string y) rfl)
 have hBw : Below w.heap.size w w2:= below_mono (hB0 _) hB2
 have hzw : w.heap.size <= w2.heap.size:= hBw.size
 have hzw' : w.heap.size + 1 <= w2.heap.size:= by have:= hB2.size; rw [World.size_alloc] at this; exact this
 obtain ⟨hp1, ⟨rfl, hn0⟩ | ⟨g, cap, cur, rfl, hgb, hh, hnc, hmc, hcs, htk⟩⟩:= hO2
 . have hos : os = []:= List.length_eq_zero_iff.1 hn0
   subst hos
   have hn' : n = 0:= hn.symm
   subst hn'
   have hat0 : at' = 0:= by omega
   subst hat0
   clear hlt hge hn hn0 hp1
   obtain ⟨base, hbase⟩ : ∃ b, b = w2.heap.size:= ⟨_, rfl⟩
   have hbs : base <= w2.heap.size:= by omega
   have hO0 : ∀ d, (w2.drewN d).ownsRow base 51 2 (.slice none 0 0) 0 []:= fun d => OwnP.nil base _
   have HBb : Hid (base = w2.heap.size):= hbase
   clear hbase
   go_loopw [6] (fun i wr => i = .int .i64 0 /\ ∃ d, wr = w2.drewN d) (fun _ _ => 0)
   case atStart => exact ⟨rfl, 0, rfl⟩
   case round =>
     obtain ⟨rfl, d, rfl⟩:= hrel
     go_wp2_with fail
     go_quiet (fail)
     go_wp2_with (first
       | (at_builtin; refine wpList_append_own_none rfl (.tmp 28) (.tmp 31) 31 rfl base 51 i0 2 Tryz.underlying31 hi _ 0 [] rfl (hO0 _) rfl ?_)
       | (at_builtin; refine wpList_append_own _ rfl (.tmp 33) (.tmp 35) 31 rfl base 51 i0 _ 2 32 Tryz.underlying31 hi hz0 hz1 hz2 rfl (by decide) _ 0 [] rfl (World.ownsRow.alloc (hO0 _) _) ⟨w2.heap.size, 0, none⟩ 1 1 _ rfl rfl (World.news_of_block (heap_alloc_new (w2.drewN _) _)) ?c2 ?c3 ?c4 ?c5 ?_))
     case c2 => exact ⟨rfl, rfl⟩
     case c3 => unfold maxLen; omega
     case c4 => omega
     case c5 => simp; omega
     intro v4 w4 hown4 hgrow4 _
     have hO4 : OwnP w.heap.size w4 v4 [(x, y)]:= by
       unfold OwnP
       have h5:= ownsRow_base (b:= base) (b':= w.heap.size) hown4 (by rw [HBb.out]; exact hzw)
       try simp only [List.nil_append, Nat.zero_add] at h5
       have e1 : prCs [(x, y)] = [.string x, .string y]:= by simp [prCs, prC]
       rw [e1]
       exact h5
     have hBfin : Below w.heap.size w w4:= ((below_mono hBw (below_drewN _ _ _)).alloc hzw _).grown hgrow4 (by rw [World.size_alloc]; exact Nat.le_succ_of_le hzw) (fun k e => by cases e)
     go_wp2_with (at_builtin; refine wpList_append_own_none rfl (.tmp 37) (.tmp 40) 31 rfl base 51 i0 2 Tryz.underlying31 hi _ _ _ rfl hown4 rfl ?_)
     go_ret
     exact ⟨_, rfl, hO4, hBfin⟩
 rw [hn] at hnc htk ⊢
 have hcell : ∀ q u, (prCs os)[q]? = some u -> w2.cell? ((⟨g, 0, none⟩ : Addr).add q) = some u:= fun q u hq => by
   have ea : (⟨g, 0, none⟩ : Addr).add q = ⟨g, q, none⟩:= by
     unfold Addr.add
     by_cases h0 : q = 0
     . rw [if_pos h0, h0]
     . rw [if_neg h0]; simp
   rw [ea]
   rw [<- htk, List.getElem?_take] at hq
   by_cases h : q < n * 2
   . rw [if_pos h, Array.getElem?_toList] at hq
     simp [World.cell?, hh, hq]
   . rw [if_neg h] at hq; cases hq
 have hc : ∀ (i : Nat) (h : i < os.length), w2.cell? ((⟨g, 0, none⟩ : Addr).add (i * 2)) = some (.string os[i].1) /\ True:= fun i h => ⟨hcell _ _ (prCs_get os i h).1, trivial⟩
 obtain ⟨base, hbase⟩ : ∃ b, b = w2.heap.size:= ⟨_, rfl⟩
 have hbs : base <= w2.heap.size:= by omega
 have hO0 : ∀ d, (w2.drewN d).ownsRow base 51 2 (.slice none 0 0) 0 []:= fun d => OwnP.nil base _
 have hgl : g < w2.heap.size:= (Array.getElem?_eq_some_iff.1 hh).1
 have HBb : Hid (base = w2.heap.size):= hbase
 have HH : Hid _:= hh
 have HTK : Hid _:= htk
 have hnew1 : ∀ q u, (prCs (os.take at'))[q]? = some u -> w2.cell? ((⟨g, 0, none⟩ : Addr).add q) = some u:= fun q u h => by
   refine hcell q u ?_
   have hql : q < (prCs (os.take at')).length:= (List.getElem?_eq_some_iff.1 h).1
   rw [prCs_split os at', List.getElem?_append_left hql]
   exact h
 obtain ⟨a, ha⟩ : ∃ a : Addr, a = ⟨g, 0, none⟩:= ⟨_, rfl⟩
 rw [<- ha] at hc hcell hnew1 ⊢
 have HA : Hid _:= ha
 clear hbase hh htk hp1 hcs ha
 go_loopw [6] (fun i wr => ∃ j d : Nat, j <= at' /\ i = .int .i64 j /\ wr = w2.drewN d) (fun i _ => (n - intOf i).toNat)
 case atStart => exact ⟨0, 0, by omega, rfl, rfl⟩
 case round =>
   obtain ⟨j, d, hj, rfl, rfl⟩:= hrel
   by_cases hja : j < at'
   . have hjn : j < os.length:= by omega
     have h0:= (hc j hjn).1
     have hl:= hlt j hjn hja
     have hd : decide ((j : Int) < (n : Int)) = true:= decide_eq_true (by omega)
     have hjn2 : j < n:= by omega
     have hj0 : (0 : Int) <= (j : Int):= by omega
     have hj1 : (j : Int) < (n : Int):= by omega
     generalize os[j].1 = z at h0 hl
     clear hc hlt hge
     go_wp2_with fail
     go_quiet (fail)
     go_wp2_with fail
     go_roundw
     case rel => exact ⟨j + 1, _, by omega, by go_num, rfl⟩
     case measure => simp [intOf]; omega
   . obtain rfl : j = at':= by omega
     have hcond : (j < n /\ ∃ z, w2.cell? (a.add (j * 2)) = some (.string z) /\ Op.bytesLess z.toList x.toList = false) \/ j = n:= by
       by_cases h : j < n
       . exact .inl ⟨h, _, (hc j (by omega)).1, hge (by omega)⟩
       . exact .inr (by omega)
     clear hc hlt hge
     have hj0 : (0 : Int) <= (j : Int):= by omega
     have hj1 : (j : Int) <= (n : Int):= by omega
     have hj3 : (j : Int) <= (cap : Int):= by omega
     rcases hcond with ⟨hjn, z, h0, hl⟩ | hjn
     . have hd : decide ((j : Int) < (n : Int)) = true:= decide_eq_true (by omega)
       have hj2 : (j : Int) < (n : Int):= by omega
       go_wp2_with fail
       go_quiet (fail)
       go_wp2_with (at_builtin; refine wpList_append_own _ rfl (.tmp 28) (.tmp 31) 31 rfl base 51 i0 _ 2 32 Tryz.underlying31 hi hz0 hz1 hz2 rfl (by decide) _ 0 [] rfl (hO0 _) a j cap (prCs (os.take j)) rfl (by rw [prCs_len, List.length_take]; omega) hnew1 (prCs_one _) ?c3 ?c4 ?c5 ?_)
       case c3 => unfold maxLen; omega
       case c4 => omega
       case c5 => exact hbs
       intro v3 w3 hown3 hgrow3 _
       have y0 : w3.cell? ⟨w.heap.size, 0, none⟩ = some (.string x):= (hgrow3.cell_far ⟨w.heap.size, 0, none⟩ (by show w.heap.size < w2.heap.size; omega) (by simp [Value.ownBlock])).trans hx0
       have y1 : w3.cell? ⟨w.heap.size, 1, none⟩ = some (.string y):= (hgrow3.cell_far ⟨w.heap.size, 1, none⟩ (by show w.heap.size < w2.heap.size; omega) (by simp [Value.ownBlock])).trans hx1
       try simp only [List.nil_append, Nat.zero_add] at hown3
       have hz3 : w2.heap.size <= w3.heap.size:= hgrow3.size
       have hb3 : base <= w3.heap.size:= by omega
       have hbk3 : ∀ k, v3.ownBlock = some k -> base <= k:= by
         intro k hk
         obtain ⟨_, ⟨rfl, _⟩ | ⟨g', cap', cur', rfl, hg', _⟩⟩:= hown3
         . simp [Value.ownBlock] at hk
         . simp [Value.ownBlock] at hk; omega
       go_wp2_with (at_builtin; refine wpList_append_own _ rfl (.tmp 33) (.tmp 35) 31 rfl base 51 i0 _ 2 32 Tryz.underlying31 hi hz0 hz1 hz2 rfl (by decide) _ _ _ rfl (hown3.alloc _) ⟨w3.heap.size, 0, none⟩ 1 1 _ rfl rfl (World.news_of_block (heap_alloc_new w3 _)) ?c2 ?c3 ?c4 ?c5 ?_)
       case c2 => exact ⟨rfl, rfl⟩
       case c3 => unfold maxLen; omega
       case c4 => omega
       case c5 => simp; omega
       intro v4 w4 hown4 hgrow4 _
       have hfar : ∀ q u, w2.cell? (a.add q) = some u -> w4.cell? (a.add q) = some u:= fun q u h => by
         have hb : (a.add q).block = g:= by rw [HA.out]; unfold Addr.add; split <;> rfl
         have hgb2 : g < base:= by rw [HBb.out]; exact hgl
         have e3 : w3.cell? (a.add q) = some u:= (hgrow3.cell_far (a.add q) (by rw [hb]; exact hgl) (by simp [Value.ownBlock])).trans h
         have e4:= (((Below.refl w3.heap.size w3).alloc (Nat.le_refl _) (.cells #[.string x, .string y] 51)).cell (p:= a.add q) (by rw [hb]; omega)).trans e3
         exact (hgrow4.cell_far (a.add q) (by rw [hb, World.size_alloc]; omega) (fun e => by have:= hbk3 _ e.symm; rw [hb] at this; omega)).trans e4
       have hz4 : w3.heap.size <= w4.heap.size:= by have:= hgrow4.size; rw [World.size_alloc] at this; omega
       have hnew2 : ∀ q u, (prCs (os.drop j))[q]? = some u -> w4.cell? ((a.add (j * 2)).add q) = some u:= fun q u h => by
         have ea : (a.add (j * 2)).add q = a.add (j * 2 + q):= by rw [HA.out, add_zero', add_zero', add_any]
         rw [ea]
         refine hfar _ _ (hcell _ _ ?_)
         rw [prCs_split os j, List.getElem?_append_right (by rw [prCs_len, List.length_take]; omega), prCs_len, List.length_take, show j * 2 + q - min j os.length * 2 = q by rw [Nat.min_eq_left (by omega)]; omega]
         exact h
       have hj4 : (j : Int) <= (n : Int):= by omega
       go_wp2_with (at_builtin; refine wpList_append_own _ rfl (.tmp 37) (.tmp 40) 31 rfl base 51 i0 _ 2 32 Tryz.underlying31 hi hz0 hz1 hz2 rfl (by decide) _ _ _ rfl hown4 (a.add (j * 2)) (n - j) (cap - j) (prCs (os.drop j)) rfl (by rw [prCs_len, List.length_drop]; omega) hnew2 (prCs_one _) ?c3 ?c4 ?c5 ?_)
       case c3 => unfold maxLen; omega
       case c4 => omega
       case c5 => omega
       intro v5 w5 hown5 hgrow5 _
       have hbk4 : ∀ k, v4.ownBlock = some k -> base <= k:= by
         intro k hk
         obtain ⟨_, ⟨rfl, _⟩ | ⟨g', cap', cur', rfl, hg', _⟩⟩:= hown4
         . simp [Value.ownBlock] at hk
         . simp [Value.ownBlock] at hk; omega
       have hfin : OwnP w.heap.size w5 v5 (os.take j ++ (x, y) :: os.drop j):= by
         unfold OwnP
         have e1 : prCs (os.take j ++ (x, y) :: os.drop j) = prCs (os.take j) ++ Value.string x :: Value.string y :: prCs (os.drop j):= by
           rw [prCs_app, show (x, y) :: os.drop j = [(x, y)] ++ os.drop j from rfl, prCs_app]; simp [prCs, prC]
         have e2 : (os.take j ++ (x, y) :: os.drop j).length = j + 1 + (n - j):= by
           rw [List.length_append, List.length_cons, List.length_take, List.length_drop]; omega
         rw [e1, e2]
         exact ownsRow_base (b:= base) hown5 (by rw [HBb.out]; exact hzw)
       have hBfin : Below w.heap.size w w5:= by
         have k1 : Below w.heap.size w w3:= (below_mono hBw (below_drewN _ _ _)).grown hgrow3 hzw (fun k e => by cases e)
         have k2 : Below w.heap.size w w4:= (k1.alloc (by omega) _).grown hgrow4 (by rw [World.size_alloc]; omega) (fun k e => by have:= hbk3 k e; rw [HBb.out] at this; omega)
         exact k2.grown hgrow5 (by omega) (fun k e => by have:= hbk4 k e; rw [HBb.out] at this; omega)
       clear hown5 hgrow5 hown4 hgrow4 hown3 hgrow3
       go_wp2_with fail
       go_ret
       exact ⟨_, rfl, hfin, hBfin⟩
     . have hjn':= hjn.symm
       subst hjn'
       have hd : decide ((n : Int) < (n : Int)) = false:= decide_eq_false (by omega)
       go_wp2_with fail
       go_quiet (fail)
       go_wp2_with (at_builtin; refine wpList_append_own _ rfl (.tmp 28) (.tmp 31) 31 rfl base 51 i0 _ 2 32 Tryz.underlying31 hi hz0 hz1 hz2 rfl (by decide) _ 0 [] rfl (hO0 _) a n cap (prCs (os.take n)) rfl (by rw [prCs_len, List.length_take]; omega) hnew1 (prCs_one _) ?c3 ?c4 ?c5 ?_)
       case c3 => unfold maxLen; omega
       case c4 => omega
       case c5 => exact hbs
       intro v3 w3 hown3 hgrow3 _
       have y0 : w3.cell? ⟨w.heap.size, 0, none⟩ = some (.string x):= (hgrow3.cell_far ⟨w.heap.size, 0, none⟩ (by show w.heap.size < w2.heap.size; omega) (by simp [Value.ownBlock])).trans hx0
       have y1 : w3.cell? ⟨w.heap.size, 1, none⟩ = some (.string y):= (hgrow3.cell_far ⟨w.heap.size, 1, none⟩ (by show w.heap.size < w2.heap.size; omega) (by simp [Value.ownBlock])).trans hx1
       try simp only [List.nil_append, Nat.zero_add] at hown3
       have hz3 : w2.heap.size <= w3.heap.size:= hgrow3.size
       have hb3 : base <= w3.heap.size:= by omega
       have hbk3 : ∀ k, v3.ownBlock = some k -> base <= k:= by
         intro k hk
         obtain ⟨_, ⟨rfl, _⟩ | ⟨g', cap', cur', rfl, hg', _⟩⟩:= hown3
         . simp [Value.ownBlock] at hk
         . simp [Value.ownBlock] at hk; omega
       go_wp2_with (at_builtin; refine wpList_append_own _ rfl (.tmp 33) (.tmp 35) 31 rfl base 51 i0 _ 2 32 Tryz.underlying31 hi hz0 hz1 hz2 rfl (by decide) _ _ _ rfl (hown3.alloc _) ⟨w3.heap.size, 0, none⟩ 1 1 _ rfl rfl (World.news_of_block (heap_alloc_new w3 _)) ?c2 ?c3 ?c4 ?c5 ?_)
       case c2 => exact ⟨rfl, rfl⟩
       case c3 => unfold maxLen; omega
       case c4 => omega
       case c5 => simp; omega
       intro v4 w4 hown4 hgrow4 _
       have hfar : ∀ q u, w2.cell? (a.add q) = some u -> w4.cell? (a.add q) = some u:= fun q u h => by
         have hb : (a.add q).block = g:= by rw [HA.out]; unfold Addr.add; split <;> rfl
         have hgb2 : g < base:= by rw [HBb.out]; exact hgl
         have e3 : w3.cell? (a.add q) = some u:= (hgrow3.cell_far (a.add q) (by rw [hb]; exact hgl) (by simp [Value.ownBlock])).trans h
         have e4:= (((Below.refl w3.heap.size w3).alloc (Nat.le_refl _) (.cells #[.string x, .string y] 51)).cell (p:= a.add q) (by rw [hb]; omega)).trans e3
         exact (hgrow4.cell_far (a.add q) (by rw [hb, World.size_alloc]; omega) (fun e => by have:= hbk3 _ e.symm; rw [hb] at this; omega)).trans e4
       have hz4 : w3.heap.size <= w4.heap.size:= by have:= hgrow4.size; rw [World.size_alloc] at this; omega
       have hnew2 : ∀ q u, (prCs (os.drop n))[q]? = some u -> w4.cell? ((a.add (n * 2)).add q) = some u:= fun q u h => by
         have ea : (a.add (n * 2)).add q = a.add (n * 2 + q):= by rw [HA.out, add_zero', add_zero', add_any]
         rw [ea]
         refine hfar _ _ (hcell _ _ ?_)
         rw [prCs_split os n, List.getElem?_append_right (by rw [prCs_len, List.length_take]; omega), prCs_len, List.length_take, show n * 2 + q - min n os.length * 2 = q by rw [Nat.min_eq_left (by omega)]; omega]
         exact h
       have hj4 : (n : Int) <= (n : Int):= by omega
       obtain ⟨ad, had⟩ : ∃ ad, (if cap = n then some a else some (a.add (n * 2))) = some ad:= by
         by_cases h : cap = n
         . exact ⟨a, if_pos h⟩
         . exact ⟨_, if_neg h⟩
       go_wp2_with (at_builtin; refine wpList_append_own _ rfl (.tmp 37) (.tmp 40) 31 rfl base 51 i0 _ 2 32 Tryz.underlying31 hi hz0 hz1 hz2 rfl (by decide) _ _ _ rfl hown4 ad 0 (cap - n) [] (by first | rfl | exact congrArg (fun p => Value.slice p 0 (cap - n)) had) rfl (fun q u h => by simp at h) (fun u h => absurd h List.not_mem_nil) ?c3 ?c4 ?c5 ?_)
       case c3 => unfold maxLen; omega
       case c4 => omega
       case c5 => omega
       intro v5 w5 hown5 hgrow5 _
       have hbk4 : ∀ k, v4.ownBlock = some k -> base <= k:= by
         intro k hk
         obtain ⟨_, ⟨rfl, _⟩ | ⟨g', cap', cur', rfl, hg', _⟩⟩:= hown4
         . simp [Value.ownBlock] at hk
         . simp [Value.ownBlock] at hk; omega
       have hfin : OwnP w.heap.size w5 v5 (os.take n ++ (x, y) :: os.drop n):= by
         have h5:= ownsRow_base (b:= base) (b':= w.heap.size) hown5 (by rw [HBb.out]; exact hzw)
         try simp only [List.append_nil, Nat.add_zero] at h5
         unfold OwnP
         have e1 : prCs (os.take n ++ (x, y) :: os.drop n) = prCs (os.take n) ++ [.string x, .string y]:= by
           rw [List.drop_of_length_le (by omega), prCs_app]; simp [prCs, prC]
         have e2 : (os.take n ++ (x, y) :: os.drop n).length = n + 1:= by
           rw [List.length_append, List.length_cons, List.length_take, List.length_drop]; omega
         rw [e1, e2]
         exact h5
       have hBfin : Below w.heap.size w w5:= by
         have k1 : Below w.heap.size w w3:= (below_mono hBw (below_drewN _ _ _)).grown hgrow3 hzw (fun k e => by cases e)
         have k2 : Below w.heap.size w w4:= (k1.alloc (by omega) _).grown hgrow4 (by rw [World.size_alloc]; omega) (fun k e => by have:= hbk3 k e; rw [HBb.out] at this; omega)
         exact k2.grown hgrow5 (by omega) (fun k e => by have:= hbk4 k e; rw [HBb.out] at this; omega)
       clear hown5 hgrow5 hown4 hgrow4 hown3 hgrow3
       go_wp2_with fail
       go_ret
       exact ⟨_, rfl, hfin, hBfin⟩
theorem bytesLess_klt : ∀ (a b : List UInt8), Op.bytesLess a b = klt a b
 | [], [] => rfl
 | _ :: _, [] => rfl
 | [], _ :: _ => rfl
 | a :: x, b :: y => by
   simp only [Op.bytesLess, klt]
   by_cases e : a = b
   . subst e
     rw [if_pos rfl, bytesLess_klt x y]
     have : decide (a < a) = false:= decide_eq_false (fun h => by rw [UInt8.lt_iff_toNat_lt] at h; omega)
     rw [this]; simp
   . rw [if_neg e]
     have e2 : (a == b) = false:= beq_eq_false_iff_ne.2 e
     rw [e2]
     simp [UInt8.lt_iff_toNat_lt]
theorem tw_facts {α : Type} (p : α -> Bool) : ∀ (l : List α), (∀ i (h : i < l.length), i < (l.takeWhile p).length -> p l[i] = true) /\ ∀ h : (l.takeWhile p).length < l.length, p (l[(l.takeWhile p).length]'h) = false
 | [] => ⟨fun i h => absurd h (Nat.not_lt_zero _), fun h => absurd h (Nat.not_lt_zero _)⟩
 | x :: l => by
   obtain ⟨h1, h2⟩:= tw_facts p l
   cases hx : p x with
   | true =>
     have e : (x :: l).takeWhile p = x :: l.takeWhile p:= List.takeWhile_cons_of_pos hx
     rw [e]
     refine ⟨fun i h hi => ?_, fun h => ?_⟩
     . cases i with
       | zero => exact hx
       | succ i => exact h1 i (by simpa using h) (by simpa using hi)
     . exact h2 (by simpa using h)
   | false =>
     have e : (x :: l).takeWhile p = []:= List.takeWhile_cons_of_neg (by rw [hx]; decide)
     rw [e]
     exact ⟨fun i h hi => absurd hi (Nat.not_lt_zero _), fun h => hx⟩
def pput (x y : ByteArray) (ps : List (ByteArray × ByteArray)) : List (ByteArray × ByteArray) :=
 (pwo x ps).takeWhile (fun z => Op.bytesLess z.1.toList x.toList) ++ (x, y) :: (pwo x ps).dropWhile (fun z => Op.bytesLess z.1.toList x.toList)
theorem put_any {w : World} {v : Value} {x y : ByteArray} {ps : List (ByteArray × ByteArray)} (hr : PRow w v ps) (hl : ps.length <= 50000) :
   Calls Tryz.prog 16 #[v, .agg #[.string x, .string y]] w fun e w' => ∃ v', e = .returned v' /\ OwnP w.heap.size w' v' (pput x y ps) /\ Below w.heap.size w w':= by
 have hle:= pwo_le x ps
 have hf:= tw_facts (fun z : ByteArray × ByteArray => Op.bytesLess z.1.toList x.toList) (pwo x ps)
 have hs:= List.takeWhile_append_dropWhile (p:= fun z : ByteArray × ByteArray => Op.bytesLess z.1.toList x.toList) (l:= pwo x ps)
 have ht : (pwo x ps).take ((pwo x ps).takeWhile fun z => Op.bytesLess z.1.toList x.toList).length = (pwo x ps).takeWhile fun z => Op.bytesLess z.1.toList x.toList:= by
   conv => lhs; arg 2; rw [<- hs]
   exact List.take_left' rfl
 have hd : (pwo x ps).drop ((pwo x ps).takeWhile fun z => Op.bytesLess z.1.toList x.toList).length = (pwo x ps).dropWhile fun z => Op.bytesLess z.1.toList x.toList:= by
   conv => lhs; arg 2; rw [<- hs]
   exact List.drop_left' rfl
 have h:= put_raw (w:= w) (v:= v) (x:= x) (y:= y) (os:= pwo x ps) (at':= ((pwo x ps).takeWhile fun z => Op.bytesLess z.1.toList x.toList).length) rfl (by omega)
   (by have:= congrArg List.length hs; rw [List.length_append] at this; omega) hf.1 hf.2
   (fun w1 hB => without_row (hr.same fun a u ha => by rw [hB.cell (Tw.cell_lt ha)]; exact ha) (by omega))
 rw [ht, hd] at h
 exact h
theorem S_inj {a b : List UInt8} (h : Tw.S a = Tw.S b) : a = b:= by
 have:= congrArg (fun x : ByteArray => x.data.toList) h
 simpa [Tw.S] using this
theorem S_list (b : ByteArray) : Tw.S b.data.toList = b:= bytes_ext (by simp [Tw.S])
theorem S_toList (a : List UInt8) : (Tw.S a).toList = a:= by rw [Lib.toList_data]; simp [Tw.S]
theorem S_data (a : List UInt8) : (Tw.S a).data.toList = a:= by simp [Tw.S]
theorem phas_prs (k : List UInt8) (l : KV) : phas (Tw.S k) l.prs = khas k l:= by
 induction l with
 | nil => rfl
 | cons x l ih =>
   show (if Tw.S x.1 = Tw.S k then some x.2 else phas (Tw.S k) (KV.prs l)) = if x.1 = k then some x.2 else khas k l
   rw [ih]
   by_cases e : x.1 = k
   . rw [if_pos e, if_pos (by rw [e])]
   . rw [if_neg e, if_neg (fun h => e (S_inj h))]
theorem pwo_prs (k : List UInt8) (l : KV) : pwo (Tw.S k) l.prs = KV.prs (kwo k l):= by
 unfold pwo KV.prs kwo
 rw [List.filter_map]
 congr 1
 refine List.filter_congr fun x _ => ?_
 simp only [Function.comp_apply, ne_eq, decide_not]
 rw [Bool.eq_iff_iff]
 simp only [Bool.not_eq_true', decide_eq_false_iff_not, bne_iff_ne, ne_eq]
 exact ⟨fun h e => h (by rw [e]), fun h e => h (S_inj e)⟩
theorem pput_prs (k : List UInt8) (v : ByteArray) (l : KV) : pput (Tw.S k) v l.prs = KV.prs (kput k v l):= by
 unfold pput kput
 rw [pwo_prs]
 have e : ∀ x : List UInt8 × ByteArray, Op.bytesLess (Tw.S x.1).toList (Tw.S k).toList = klt x.1 k:= fun x => by rw [S_toList, S_toList, bytesLess_klt]
 simp only [KV.prs, List.takeWhile_map, List.dropWhile_map, List.map_append, List.map_cons]
 congr 1
 . congr 1
   congr 1
   funext x
   exact e x
 . congr 2
   congr 1
   funext x
   exact e x
theorem prs_inj : ∀ {a b : KV}, a.prs = b.prs -> a = b
 | [], [], _ => rfl
 | [], _ :: _, h => by cases h
 | _ :: _, [], h => by cases h
 | x :: a, y :: b, h => by
   simp only [KV.prs, List.map_cons, List.cons.injEq, Prod.mk.injEq] at h
   obtain ⟨⟨h1, h2⟩, h3⟩:= h
   rw [Prod.ext (S_inj h1) h2, prs_inj (a:= a) (b:= b) h3]
theorem prs_length (l : KV) : l.prs.length = l.length:= by simp [KV.prs]
def ks (i : Nat) : List UInt8:= (keyN i).data.toList
def kall : List (List UInt8):= keys20.map fun x => x.data.toList
theorem ks_S (i : Nat) : Tw.S (ks i) = keyN i:= S_list _
theorem ks_mem (i : Nat) (h : i < 20) : ks i ∈ kall:= by
 refine List.mem_map.2 ⟨keyN i, ?_, rfl⟩
 unfold keyN
 rw [List.getD_eq_getElem?_getD, List.getElem?_eq_getElem (show i < keys20.length from h)]
 exact List.getElem_mem _
theorem kall_size : ∀ k, k ∈ kall -> k ≠ [] /\ k.length <= 4:= by decide
theorem nodup_le {α : Type} [DecidableEq α] : ∀ (xs ys : List α), xs.Nodup -> (∀ x, x ∈ xs -> x ∈ ys) -> xs.length <= ys.length
 | [], _, _, _ => Nat.zero_le _
 | x :: xs, ys, h, hs => by
   obtain ⟨hx, hn⟩:= List.nodup_cons.1 h
   have hy:= hs x List.mem_cons_self
   have:= nodup_le xs (ys.erase x) hn fun z hz => (List.mem_erase_of_ne (fun e => hx (by rw [<- e]; exact hz))).2 (hs z (List.mem_cons_of_mem _ hz))
   rw [List.length_erase_of_mem hy] at this
   have:= List.length_pos_of_mem hy
   simp only [List.length_cons]
   omega
structure Row (l : KV) : Prop where
 rising : Rising l
 keys : ∀ x, x ∈ l -> x.1 ∈ kall /\ x.2.size <= 20
theorem Row.nil : Row []:= ⟨List.Pairwise.nil, fun x hx => absurd hx List.not_mem_nil⟩
theorem Row.ok {l : KV} (h : Row l) : l.ok:= fun x hx => ⟨(kall_size _ (h.keys x hx).1).1, (kall_size _ (h.keys x hx).1).2, by have:= (h.keys x hx).2; omega⟩
theorem Row.len {l : KV} (h : Row l) : l.length <= 20:= by
 have h1 : (l.map Prod.fst).Nodup:= by
   rw [List.Nodup, List.pairwise_map]
   exact h.rising.imp fun h => klt_ne h
 have:= nodup_le (l.map Prod.fst) kall h1 fun x hx => by
   obtain ⟨y, hy, rfl⟩:= List.mem_map.1 hx
   exact (h.keys y hy).1
 rw [List.length_map] at this
 exact this
theorem kwo_sub (k : List UInt8) (l : KV) : ∀ x, x ∈ kwo k l -> x ∈ l:= fun x hx => (List.mem_filter.1 hx).1
theorem Row.wo {l : KV} (h : Row l) (k : List UInt8) : Row (kwo k l):= ⟨List.Pairwise.filter _ h.rising, fun x hx => h.keys x (kwo_sub k l x hx)⟩
theorem Row.put {l : KV} (h : Row l) {k : List UInt8} {v : ByteArray} (hk : k ∈ kall) (hv : v.size <= 20) : Row (kput k v l):= by
 refine ⟨h.rising.put, fun x hx => ?_⟩
 rcases mem_kput hx with rfl | ⟨h1, _⟩
 . exact ⟨hk, hv⟩
 . exact h.keys x h1
theorem Row.fits {l : KV} (h : Row l) {t : T ByteArray} (hr : Rep l.bits t) {k : List UInt8} (hk : k ∈ kall) : Fits t (kb k):= by
 refine ⟨⟨l.bits, hr, fun x hx => ?_⟩, by rw [kb_length]; have:= (kall_size k hk).2; omega⟩
 obtain ⟨y, _, rfl⟩:= List.mem_map.1 hx
 exact kb_parts _ _
variable {dg : DG}
def chg (F : Lit -> Option Value) (B : KV) (j : List UInt8) : Option ByteArray :=
 match F (.string j) with
 | some (.agg #[.string v, .bool true]) => some v
 | some _ => none
 | none => khas j B
theorem chg_none {F : Lit -> Option Value} {B : KV} {j : List UInt8} (h : F (.string j) = none) : chg F B j = khas j B:= by unfold chg; rw [h]
theorem chg_there {F : Lit -> Option Value} {B : KV} {j : List UInt8} {v : ByteArray} (h : F (.string j) = some (there v)) : chg F B j = some v:= by unfold chg; rw [h]; rfl
theorem chg_gone {F : Lit -> Option Value} {B : KV} {j : List UInt8} (h : F (.string j) = some gone) : chg F B j = none:= by unfold chg; rw [h]; rfl
theorem nowHas_eq {F : Lit -> Option Value} {B : KV} {t : T ByteArray} (hr : Rep B.bits t) (j : List UInt8) : nowHas F t j = chg F B j:= by
 unfold nowHas chg
 have e : t.get (kb j) = khas j B:= by rw [rep_get hr]; exact bits_has j B
 rw [e]
 rfl
structure Chg (F : Lit -> Option Value) (B now : KV) : Prop where
 tells : Tells F
 keys : ∀ k v, F k = some v -> ∃ j, k = .string j /\ j ∈ kall
 gone : ∀ j, F (.string j) = some gone -> khas j B ≠ none
 now : ∀ j, khas j now = chg F B j
theorem upd_eq (F : Lit -> Option Value) (k : Lit) (o : Option Value) : upd F k o k = o:= by unfold upd; rw [if_pos rfl]
theorem upd_ne {F : Lit -> Option Value} {k j : Lit} {o : Option Value} (h : j ≠ k) : upd F k o j = F j:= by unfold upd; rw [if_neg h]
theorem str_ne {j k : List UInt8} (h : j ≠ k) : Lit.string j ≠ Lit.string k:= fun e => h (by cases e; rfl)
theorem chg_upd_ne {F : Lit -> Option Value} {B : KV} {j k : List UInt8} {o : Option Value} (h : j ≠ k) : chg (upd F (.string k) o) B j = chg F B j:= by
 unfold chg; rw [upd_ne (str_ne h)]
theorem Chg.start (B : KV) : Chg (fun _ => none) B B:= ⟨fun _ _ h => (by cases h), fun _ _ h => (by cases h), fun _ h => (by cases h), fun j => (chg_none rfl).symm⟩
theorem there_ne_gone (v : ByteArray) : there v ≠ gone:= by
 intro h
 unfold there gone at h
 simp at h
theorem Chg.set {F : Lit -> Option Value} {B now : KV} (h : Chg F B now) (hn : Row now) {k : List UInt8} {v : ByteArray} (hk : k ∈ kall) (hv : v.size <= 20) : Chg (upd F (.string k) (some (there v))) B (kput k v now):= by
 refine ⟨fun j x e => ?_, fun j x e => ?_, fun j e => ?_, fun j => ?_⟩
 . by_cases hj : j = .string k
   . subst hj; rw [upd_eq] at e; cases e; exact .inl ⟨v, rfl, hv⟩
   . rw [upd_ne hj] at e; exact h.tells j x e
 . by_cases hj : j = .string k
   . exact ⟨k, hj, hk⟩
   . rw [upd_ne hj] at e; exact h.keys j x e
 . by_cases hj : j = k
   . subst hj; rw [upd_eq] at e; exact absurd (Option.some.inj e) (there_ne_gone v)
   . rw [upd_ne (str_ne hj)] at e; exact h.gone j e
 . rw [khas_put _ _ _ hn.rising]
   by_cases hj : j = k
   . subst hj; rw [if_pos rfl, chg_there (upd_eq _ _ _)]
   . rw [if_neg hj, chg_upd_ne hj, h.now]
theorem Chg.forget {F : Lit -> Option Value} {B now : KV} (h : Chg F B now) {k : List UInt8} (hb : khas k B = none) : Chg (upd F (.string k) none) B (kwo k now):= by
 refine ⟨fun j x e => ?_, fun j x e => ?_, fun j e => ?_, fun j => ?_⟩
 . by_cases hj : j = .string k
   . subst hj; rw [upd_eq] at e; cases e
   . rw [upd_ne hj] at e; exact h.tells j x e
 . by_cases hj : j = .string k
   . subst hj; rw [upd_eq] at e; cases e
   . rw [upd_ne hj] at e; exact h.keys j x e
 . by_cases hj : j = k
   . subst hj; rw [upd_eq] at e; cases e
   . rw [upd_ne (str_ne hj)] at e; exact h.gone j e
 . rw [khas_wo]
   by_cases hj : j = k
   . subst hj; rw [if_pos rfl, chg_none (upd_eq _ _ _), hb]
   . rw [if_neg hj, chg_upd_ne hj, h.now]
theorem Chg.drop {F : Lit -> Option Value} {B now : KV} (h : Chg F B now) {k : List UInt8} (hk : k ∈ kall) (hb : khas k B ≠ none) : Chg (upd F (.string k) (some Go.Proofs.YtddcbeeldjjmeaaGreat.gone)) B (kwo k now):= by
 refine ⟨fun j x e => ?_, fun j x e => ?_, fun j e => ?_, fun j => ?_⟩
 . by_cases hj : j = .string k
   . subst hj; rw [upd_eq] at e; cases e; exact .inr rfl
   . rw [upd_ne hj] at e; exact h.tells j x e
 . by_cases hj : j = .string k
   . exact ⟨k, hj, hk⟩
   . rw [upd_ne hj] at e; exact h.keys j x e
 . by_cases hj : j = k
   . subst hj; exact hb
   . rw [upd_ne (str_ne hj)] at e; exact h.gone j e
 . rw [khas_wo]
   by_cases hj : j = k
   . subst hj; rw [if_pos rfl, chg_gone (upd_eq _ _ _)]
   . rw [if_neg hj, chg_upd_ne hj, h.now]
theorem kwo_same {k : List UInt8} {l : KV} (h : khas k l = none) : kwo k l = l:= kwo_none (khas_none.1 h)
def Half (F : Lit -> Option Value) (B : KV) (L : List (List UInt8)) (B' : KV) : Prop:= ∀ x, khas x B' = if x ∈ L then chg F B x else khas x B
theorem Half.start (F : Lit -> Option Value) (B : KV) : Half F B [] B:= fun x => by simp
theorem Half.there {F : Lit -> Option Value} {B B' : KV} {L : List (List UInt8)} (h : Half F B L B') (hr : Row B') {k : List UInt8} {v : ByteArray} (hF : F (.string k) = some (there v)) : Half F B (L ++ [k]) (kput k v B'):= by
 intro x
 rw [khas_put _ _ _ hr.rising, h x]
 by_cases e : x = k
 . subst e; rw [if_pos rfl, if_pos (by simp), chg_there hF]
 . rw [if_neg e]
   by_cases e2 : x ∈ L
   . rw [if_pos e2, if_pos (List.mem_append_left _ e2)]
   . rw [if_neg e2, if_neg (by simp [e, e2])]
theorem Half.gone {F : Lit -> Option Value} {B B' : KV} {L : List (List UInt8)} (h : Half F B L B') {k : List UInt8} (hF : F (.string k) = some gone) : Half F B (L ++ [k]) (kwo k B'):= by
 intro x
 rw [khas_wo, h x]
 by_cases e : x = k
 . subst e; rw [if_pos rfl, if_pos (by simp), chg_gone hF]
 . rw [if_neg e]
   by_cases e2 : x ∈ L
   . rw [if_pos e2, if_pos (List.mem_append_left _ e2)]
   . rw [if_neg e2, if_neg (by simp [e, e2])]
theorem Half.whole {F : Lit -> Option Value} {B B' now : KV} {L : List (List UInt8)} (h : Half F B L B') (hc : Chg F B now) (hr : Row B') (hn : Row now) (hL : ∀ k, k ∈ L ↔ F (.string k) ≠ none) : B' = now:= by
 refine rising_ext hr.rising hn.rising fun k => ?_
 rw [h k, hc.now k]
 by_cases e : k ∈ L
 . rw [if_pos e]
 . rw [if_neg e, chg_none (Classical.byContradiction fun h => e ((hL k).2 h))]
theorem rep_put {B : KV} {t : T ByteArray} (hr : Rep B.bits t) (hB : Row B) (k : List UInt8) (v : ByteArray) : Rep (KV.bits (kput k v B)) (t.wth (kb k) v):= by
 have e : KV.bits (kput k v B) = ins (kb k) v B.bits:= bits_put hB.rising
 rw [e]
 refine rep_wth hr _ _ fun x hx => ?_
 obtain ⟨y, _, rfl⟩:= List.mem_map.1 hx
 exact kb_parts _ _
theorem khas_mem_bits {B : KV} {k : List UInt8} (h : khas k B ≠ none) : ∃ x, x ∈ B.bits /\ x.1 = kb k:= by
 cases e : khas k B with
 | none => exact absurd e h
 | some v => exact ⟨(kb k, v), List.mem_map.2 ⟨(k, v), khas_mem e, rfl⟩, rfl⟩
theorem rep_less {B : KV} {t : T ByteArray} (hr : Rep B.bits t) {k : List UInt8} (h : khas k B ≠ none) : Rep (KV.bits (kwo k B)) (t.wo (kb k)):= by
 have e : KV.bits (kwo k B) = del (kb k) B.bits:= bits_wo k B
 rw [e]
 exact rep_wo hr _ (khas_mem_bits h)
end Go.Proofs.YtddcbeeldjjmeaaGreat
