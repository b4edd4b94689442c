/- KEYS' BITS, made alone. -/
import Derived.Test.YtddcbeeldjjmeaaGreatPart25
import Derived.Test.YtddcbeeldjjmeaaGreatPart18
import Derived.Laws.BitsLemmas
import Derived.Test.YtddcbeeldjjmeaaGreatPart11
import Derived.Lib.MinMax
namespace Go.Proofs.YtddcbeeldjjmeaaGreat
open Go Go.RowKit Go.Nest Go.Tm Go.Proofs.YtddcbeeldjjmeaaGreat.Tw
set_option linter.unusedVariables false
set_option linter.unusedSimpArgs false
def sgs (p : Bits) : List UInt8:= p.map sg
theorem S_sgs (p : Bits) : Tw.S (sgs p) = str p:= rfl
theorem sgs_append (a b : Bits) : sgs a ++ sgs b = sgs (a ++ b):= by simp [sgs]
theorem sgs_length (a : Bits) : (sgs a).length = a.length:= by simp [sgs]
theorem bit_code (m : Nat) (h : m < 256) : (48 + Go.bits .and .u8 (m : Int) 1) % 256 = ((sg (m % 2 == 1)).toNat : Int):= by
 have hu:= u8_and_nat m 1 h (by omega)
 rw [show (1 : Int) = ((1 : Nat) : Int) from rfl, hu, Nat.and_one_is_mod]
 rcases Nat.mod_two_eq_zero_or_one m with e | e <;> rw [e] <;> rfl
theorem bit_codes (c : UInt8) : ((48 + Go.bits .and .u8 ((c.toNat : Int) / 128) 1) % 256 = ((sg (bitOf c 7)).toNat : Int)) /\ ((48 + Go.bits .and .u8 ((c.toNat : Int) / 64) 1) % 256 = ((sg (bitOf c 6)).toNat : Int)) /\ ((48 + Go.bits .and .u8 ((c.toNat : Int) / 32) 1) % 256 = ((sg (bitOf c 5)).toNat : Int)) /\ ((48 + Go.bits .and .u8 ((c.toNat : Int) / 16) 1) % 256 = ((sg (bitOf c 4)).toNat : Int)) /\ ((48 + Go.bits .and .u8 ((c.toNat : Int) / 8) 1) % 256 = ((sg (bitOf c 3)).toNat : Int)) /\ ((48 + Go.bits .and .u8 ((c.toNat : Int) / 4) 1) % 256 = ((sg (bitOf c 2)).toNat : Int)) /\ ((48 + Go.bits .and .u8 ((c.toNat : Int) / 2) 1) % 256 = ((sg (bitOf c 1)).toNat : Int)) /\ ((48 + Go.bits .and .u8 (c.toNat : Int) 1) % 256 = ((sg (bitOf c 0)).toNat : Int)):= by
 have hc:= c.toNat_lt
 have key : ∀ d : Nat, ((c.toNat : Int) / (d : Int)) = ((c.toNat / d : Nat) : Int):= fun d => (Int.natCast_ediv _ _).symm
 have hd : ∀ d : Nat, c.toNat / d < 256:= fun d => Nat.lt_of_le_of_lt (Nat.div_le_self _ _) hc
 refine ⟨?_, ?_, ?_, ?_, ?_, ?_, ?_, ?_⟩
 . exact bit_code (c.toNat / 128) (hd _)
 . exact bit_code (c.toNat / 64) (hd _)
 . exact bit_code (c.toNat / 32) (hd _)
 . exact bit_code (c.toNat / 16) (hd _)
 . exact bit_code (c.toNat / 8) (hd _)
 . exact bit_code (c.toNat / 4) (hd _)
 . exact bit_code (c.toNat / 2) (hd _)
 . have:= bit_code c.toNat hc
   rw [this]; simp [bitOf]
theorem Own.none (base : Nat) (w : World) (M : Array Value) (cap : Nat) (hb : base <= w.heap.size) (hc : M.size = cap) (h0 : cap <= maxLen) : Tw.Own base (w.alloc (.cells M 5)) (.slice (some ⟨w.heap.size, 0, none⟩) 0 cap) []:= by
 refine ⟨by simp [cellsB], Or.inr ⟨w.heap.size, cap, M, rfl, hb, heap_alloc_new w _, Nat.zero_le _, h0, by simp [hc], by simp [cellsB]⟩⟩
set_option maxRecDepth 20000 in
set_option maxHeartbeats 4000000 in
theorem bits_raw (key : ByteArray) (l : List UInt8) (n : Nat) (w : World) (hk : key.size = n) (hl : l.length = n) (hg : ∀ k (h : k < key.size), ∃ h2 : k < l.length, key[k] = l[k]) (hn : n <= 4) :
   Calls Tryz.prog 32 #[.string key] w fun e w' => e = .returned (.string (str (kb l))) /\ Below w.heap.size w w':= by
 obtain ⟨i0, hi, hz0, hz1, hz2⟩:= info_parts u8info
 obtain ⟨M, hM⟩ : ∃ M, M = madeCells (Value.int .u8 0).cells (9 * n + 1):= ⟨_, rfl⟩
 have hMs : M.size = 9 * n + 1:= by rw [hM]; simp [madeCells, Value.cells]
 have hmk : ∀ W : World, (Instr.makeSlice 93 (.int .i64 0) (.int .i64 (9 * (n : Int) + 1))).run Tryz.prog W = .ok (.slice (some ⟨W.heap.size, 0, none⟩) 0 (9 * n + 1)) (W.alloc (.cells M 5)):= fun W => by
   have h:= run_make (P:= Tryz.prog) W 93 5 i0 (.int .u8 0) Tryz.underlying93 hi hz0 .i64 .i64 0 (9 * (n : Int) + 1) (by omega) (by omega) (by rw [hz2]; omega) (by omega)
   rw [hz1, show (9 * (n : Int) + 1).toNat = 9 * n + 1 from by omega, Nat.mul_one, <- hM] at h
   exact h
 have o1 : IntKind.i64.wrap (9 * (n : Int)) = 9 * (n : Int):= Go.wrap_small _ (by omega) (by omega)
 have o2 : IntKind.i64.wrap (9 * (n : Int) + 1) = 9 * (n : Int) + 1:= Go.wrap_small _ (by omega) (by omega)
 go_enter Tryz.func32, Tryz.ntmps32
 go_wp2
 obtain ⟨base, hbase⟩ : ∃ x, x = w.heap.size:= ⟨_, rfl⟩
 have hB0 : ∀ o, Below base w (w.alloc o):= fun o => by rw [hbase]; exact (Below.refl _ _).alloc (Nat.le_refl _) _
 have hO0:= Own.none base w (madeCells #[Value.int IntKind.u8 0] (9 * n + 1)) (9 * n + 1) (by omega) (by simp [madeCells]) (by unfold maxLen; omega)
 have hz0' : ∀ o : Obj, base <= (w.alloc o).heap.size:= fun o => by rw [hbase]; simp
 rw [<- hbase]
 rw [<- hbase] at hO0
 have HBs : Hid (base = w.heap.size):= hbase
 clear hbase
 have HM : Hid _:= hM
 clear hM hMs hmk o1 o2
 go_loopw [3, 13] (fun v i wr => ∃ k : Nat, k <= n /\ i = .int .i64 k /\ Own base wr v (sgs (kbs (l.take k))) /\ Below base w wr /\ base <= wr.heap.size) (fun _ i _ => n - (intOf i).toNat)
 case atStart => exact ⟨0, by omega, rfl, hO0, hB0 _, hz0' _⟩
 case round =>
   obtain ⟨k, hkn, rfl, hO, hB, hbr⟩:= hrel
   by_cases hlt : k < n
   . have hlen : (sgs (kbs (l.take k))).length <= 40:= by rw [sgs_length, kbs_length, List.length_take]; omega
     generalize hL : sgs (kbs (l.take k)) = L at hO hlen
     have HL : Hid _:= hL
     clear hL
     unfold Own at hO
     have hd : decide ((k : Int) < (n : Int)) = true:= decide_eq_true (by omega)
     go_wp2_with (at_builtin; refine wpList_append_own _ rfl (.tmp 16) (.tmp 17) 93 rfl base 5 i0 (.int .u8 0) 1 1 Tryz.underlying93 hi hz0 hz1 hz2 rfl (by decide) _ _ _ rfl (hO.alloc _) ⟨wr.heap.size, 0, none⟩ 1 1 _ rfl rfl (cell_one_new _ _ _) ?c2 ?c3 ?c4 ?c5 ?_)
     case c2 => intro u hu; simp at hu; subst hu; rfl
     case c3 => unfold maxLen; omega
     case c4 => omega
     case c5 => simp; omega
     . intro v' w1 hown1 hgrow _
       have hO2:= Own.snoc (sg true) rfl hown1
       have hB2:= (hB.alloc hbr _).grown hgrow (by simp; omega) (Own.block hO)
       have hb2 : base <= w1.heap.size:= by have:= hB2.size; rw [HBs.out]; exact this
       clear hown1 hgrow hO hB
       go_wp2
       obtain ⟨hk2, hkl⟩:= hg k (by omega)
       have hkk : k < key.size:= by omega
       obtain ⟨c, hc⟩ : ∃ c, c = l[k]:= ⟨_, rfl⟩
       have hkc : key[k] = c:= by rw [hc]; exact hkl
       have HC : Hid (c = l[k]):= hc
       clear hkl hc
       go_loopw [3, 5] (fun v p wr => ∃ j : Nat, j <= 8 /\ p = .int .i64 (7 - (j : Int)) /\ Own base wr v (L ++ [sg true] ++ sgs ((eight c).take j)) /\ Below base w wr /\ base <= wr.heap.size) (fun _ p _ => (intOf p + 1).toNat)
       case atStart => exact ⟨0, by omega, rfl, by simpa [sgs] using hO2, hB2, hb2⟩
       case round =>
         obtain ⟨j, hj8, rfl, hO, hB, hbr⟩:= hrel
         by_cases hj : j < 8
         . have hlen2 : (L ++ [sg true] ++ sgs ((eight c).take j)).length <= 60:= by simp [sgs]; omega
           have hcc : (c.toNat : Int) < 256:= by have:= c.toNat_lt; omega
           have hbc:= bit_codes c
           generalize hP : L ++ [sg true] ++ sgs ((eight c).take j) = P at hO hlen2
           have HP : Hid _:= hP
           clear hP hO2 hB2 hb2
           unfold Own at hO
           obtain ⟨q7, q6, q5, q4, q3, q2, q1, q0⟩:= hbc
           have hj' : j = 0 \/ j = 1 \/ j = 2 \/ j = 3 \/ j = 4 \/ j = 5 \/ j = 6 \/ j = 7:= by omega
           rcases hj' with rfl | rfl | rfl | rfl | rfl | rfl | rfl | rfl
           . go_wp2_with (at_builtin; refine wpList_append_own _ rfl (.tmp 23) (.tmp 31) 93 rfl base 5 i0 (.int .u8 0) 1 1 Tryz.underlying93 hi hz0 hz1 hz2 rfl (by decide) _ _ _ rfl (hO.alloc _) ⟨wr.heap.size, 0, none⟩ 1 1 _ rfl rfl (cell_one_new _ _ _) ?c2 ?c3 ?c4 ?c5 ?_)
             case c2 => intro u hu; simp at hu; subst hu; rfl
             case c3 => unfold maxLen; omega
             case c4 => omega
             case c5 => simp; omega
             . intro v' w1 hown1 hgrow _
               have hO2:= Own.snoc (sg (bitOf c 7)) rfl hown1
               have hB2:= (hB.alloc hbr _).grown hgrow (by simp; omega) (Own.block hO)
               have hb2 : base <= w1.heap.size:= by have:= hB2.size; rw [HBs.out]; exact this
               clear hown1 hgrow hO hB
               go_wp2
               go_roundw
               case rel => exact ⟨1, by omega, by go_num, by rw [<- HP.out] at hO2; simpa [eight, sgs] using hO2, hB2, hb2⟩
               case measure => simp [intOf]
           . go_wp2_with (at_builtin; refine wpList_append_own _ rfl (.tmp 23) (.tmp 31) 93 rfl base 5 i0 (.int .u8 0) 1 1 Tryz.underlying93 hi hz0 hz1 hz2 rfl (by decide) _ _ _ rfl (hO.alloc _) ⟨wr.heap.size, 0, none⟩ 1 1 _ rfl rfl (cell_one_new _ _ _) ?c2 ?c3 ?c4 ?c5 ?_)
             case c2 => intro u hu; simp at hu; subst hu; rfl
             case c3 => unfold maxLen; omega
             case c4 => omega
             case c5 => simp; omega
             . intro v' w1 hown1 hgrow _
               have hO2:= Own.snoc (sg (bitOf c 6)) rfl hown1
               have hB2:= (hB.alloc hbr _).grown hgrow (by simp; omega) (Own.block hO)
               have hb2 : base <= w1.heap.size:= by have:= hB2.size; rw [HBs.out]; exact this
               clear hown1 hgrow hO hB
               go_wp2
               go_roundw
               case rel => exact ⟨2, by omega, by go_num, by rw [<- HP.out] at hO2; simpa [eight, sgs] using hO2, hB2, hb2⟩
               case measure => simp [intOf]
           . go_wp2_with (at_builtin; refine wpList_append_own _ rfl (.tmp 23) (.tmp 31) 93 rfl base 5 i0 (.int .u8 0) 1 1 Tryz.underlying93 hi hz0 hz1 hz2 rfl (by decide) _ _ _ rfl (hO.alloc _) ⟨wr.heap.size, 0, none⟩ 1 1 _ rfl rfl (cell_one_new _ _ _) ?c2 ?c3 ?c4 ?c5 ?_)
             case c2 => intro u hu; simp at hu; subst hu; rfl
             case c3 => unfold maxLen; omega
             case c4 => omega
             case c5 => simp; omega
             . intro v' w1 hown1 hgrow _
               have hO2:= Own.snoc (sg (bitOf c 5)) rfl hown1
               have hB2:= (hB.alloc hbr _).grown hgrow (by simp; omega) (Own.block hO)
               have hb2 : base <= w1.heap.size:= by have:= hB2.size; rw [HBs.out]; exact this
               clear hown1 hgrow hO hB
               go_wp2
               go_roundw
               case rel => exact ⟨3, by omega, by go_num, by rw [<- HP.out] at hO2; simpa [eight, sgs] using hO2, hB2, hb2⟩
               case measure => simp [intOf]
           . go_wp2_with (at_builtin; refine wpList_append_own _ rfl (.tmp 23) (.tmp 31) 93 rfl base 5 i0 (.int .u8 0) 1 1 Tryz.underlying93 hi hz0 hz1 hz2 rfl (by decide) _ _ _ rfl (hO.alloc _) ⟨wr.heap.size, 0, none⟩ 1 1 _ rfl rfl (cell_one_new _ _ _) ?c2 ?c3 ?c4 ?c5 ?_)
             case c2 => intro u hu; simp at hu; subst hu; rfl
             case c3 => unfold maxLen; omega
             case c4 => omega
             case c5 => simp; omega
             . intro v' w1 hown1 hgrow _
               have hO2:= Own.snoc (sg (bitOf c 4)) rfl hown1
               have hB2:= (hB.alloc hbr _).grown hgrow (by simp; omega) (Own.block hO)
               have hb2 : base <= w1.heap.size:= by have:= hB2.size; rw [HBs.out]; exact this
               clear hown1 hgrow hO hB
               go_wp2
               go_roundw
               case rel => exact ⟨4, by omega, by go_num, by rw [<- HP.out] at hO2; simpa [eight, sgs] using hO2, hB2, hb2⟩
               case measure => simp [intOf]
           . go_wp2_with (at_builtin; refine wpList_append_own _ rfl (.tmp 23) (.tmp 31) 93 rfl base 5 i0 (.int .u8 0) 1 1 Tryz.underlying93 hi hz0 hz1 hz2 rfl (by decide) _ _ _ rfl (hO.alloc _) ⟨wr.heap.size, 0, none⟩ 1 1 _ rfl rfl (cell_one_new _ _ _) ?c2 ?c3 ?c4 ?c5 ?_)
             case c2 => intro u hu; simp at hu; subst hu; rfl
             case c3 => unfold maxLen; omega
             case c4 => omega
             case c5 => simp; omega
             . intro v' w1 hown1 hgrow _
               have hO2:= Own.snoc (sg (bitOf c 3)) rfl hown1
               have hB2:= (hB.alloc hbr _).grown hgrow (by simp; omega) (Own.block hO)
               have hb2 : base <= w1.heap.size:= by have:= hB2.size; rw [HBs.out]; exact this
               clear hown1 hgrow hO hB
               go_wp2
               go_roundw
               case rel => exact ⟨5, by omega, by go_num, by rw [<- HP.out] at hO2; simpa [eight, sgs] using hO2, hB2, hb2⟩
               case measure => simp [intOf]
           . go_wp2_with (at_builtin; refine wpList_append_own _ rfl (.tmp 23) (.tmp 31) 93 rfl base 5 i0 (.int .u8 0) 1 1 Tryz.underlying93 hi hz0 hz1 hz2 rfl (by decide) _ _ _ rfl (hO.alloc _) ⟨wr.heap.size, 0, none⟩ 1 1 _ rfl rfl (cell_one_new _ _ _) ?c2 ?c3 ?c4 ?c5 ?_)
             case c2 => intro u hu; simp at hu; subst hu; rfl
             case c3 => unfold maxLen; omega
             case c4 => omega
             case c5 => simp; omega
             . intro v' w1 hown1 hgrow _
               have hO2:= Own.snoc (sg (bitOf c 2)) rfl hown1
               have hB2:= (hB.alloc hbr _).grown hgrow (by simp; omega) (Own.block hO)
               have hb2 : base <= w1.heap.size:= by have:= hB2.size; rw [HBs.out]; exact this
               clear hown1 hgrow hO hB
               go_wp2
               go_roundw
               case rel => exact ⟨6, by omega, by go_num, by rw [<- HP.out] at hO2; simpa [eight, sgs] using hO2, hB2, hb2⟩
               case measure => simp [intOf]
           . go_wp2_with (at_builtin; refine wpList_append_own _ rfl (.tmp 23) (.tmp 31) 93 rfl base 5 i0 (.int .u8 0) 1 1 Tryz.underlying93 hi hz0 hz1 hz2 rfl (by decide) _ _ _ rfl (hO.alloc _) ⟨wr.heap.size, 0, none⟩ 1 1 _ rfl rfl (cell_one_new _ _ _) ?c2 ?c3 ?c4 ?c5 ?_)
             case c2 => intro u hu; simp at hu; subst hu; rfl
             case c3 => unfold maxLen; omega
             case c4 => omega
             case c5 => simp; omega
             . intro v' w1 hown1 hgrow _
               have hO2:= Own.snoc (sg (bitOf c 1)) rfl hown1
               have hB2:= (hB.alloc hbr _).grown hgrow (by simp; omega) (Own.block hO)
               have hb2 : base <= w1.heap.size:= by have:= hB2.size; rw [HBs.out]; exact this
               clear hown1 hgrow hO hB
               go_wp2
               go_roundw
               case rel => exact ⟨7, by omega, by go_num, by rw [<- HP.out] at hO2; simpa [eight, sgs] using hO2, hB2, hb2⟩
               case measure => simp [intOf]
           . go_wp2_with (at_builtin; refine wpList_append_own _ rfl (.tmp 23) (.tmp 31) 93 rfl base 5 i0 (.int .u8 0) 1 1 Tryz.underlying93 hi hz0 hz1 hz2 rfl (by decide) _ _ _ rfl (hO.alloc _) ⟨wr.heap.size, 0, none⟩ 1 1 _ rfl rfl (cell_one_new _ _ _) ?c2 ?c3 ?c4 ?c5 ?_)
             case c2 => intro u hu; simp at hu; subst hu; rfl
             case c3 => unfold maxLen; omega
             case c4 => omega
             case c5 => simp; omega
             . intro v' w1 hown1 hgrow _
               have hO2:= Own.snoc (sg (bitOf c 0)) rfl hown1
               have hB2:= (hB.alloc hbr _).grown hgrow (by simp; omega) (Own.block hO)
               have hb2 : base <= w1.heap.size:= by have:= hB2.size; rw [HBs.out]; exact this
               clear hown1 hgrow hO hB
               go_wp2
               go_roundw
               case rel => exact ⟨8, by omega, by go_num, by rw [<- HP.out] at hO2; simpa [eight, sgs] using hO2, hB2, hb2⟩
               case measure => simp [intOf]
         . obtain rfl : j = 8:= by omega
           clear hO2 hB2 hb2
           go_wp2
           go_roundw
           case rel =>
             refine ⟨k + 1, by omega, by go_num, ?_, hB, hbr⟩
             have e1 : l.take (k + 1) = l.take k ++ [c]:= by rw [List.take_add_one, List.getElem?_eq_getElem hk2, HC.out]; rfl
             rw [<- HL.out] at hO
             rw [e1, kbs_append, <- sgs_append]
             simpa [kbs, eight, sgs] using hO
           case measure => simp [intOf]; omega
   . obtain rfl : k = n:= by omega
     have hlen : (sgs (kbs (l.take k))).length <= 40:= by rw [sgs_length, kbs_length, List.length_take]; omega
     have hall : l.take k = l:= by rw [List.take_of_length_le (by omega)]
     rw [hall] at hO hlen
     generalize hL : sgs (kbs l) = L at hO hlen
     have HL : Hid _:= hL
     clear hL
     unfold Own at hO
     have hd : decide ((k : Int) < (k : Int)) = false:= decide_eq_false (by omega)
     go_wp2_with (at_builtin; refine wpList_append_own _ rfl (.tmp 34) (.tmp 35) 93 rfl base 5 i0 (.int .u8 0) 1 1 Tryz.underlying93 hi hz0 hz1 hz2 rfl (by decide) _ _ _ rfl (hO.alloc _) ⟨wr.heap.size, 0, none⟩ 1 1 _ rfl rfl (cell_one_new _ _ _) ?c2 ?c3 ?c4 ?c5 ?_)
     case c2 => intro u hu; simp at hu; subst hu; rfl
     case c3 => unfold maxLen; omega
     case c4 => omega
     case c5 => simp; omega
     . intro v' w1 hown1 hgrow _
       have hO2:= Own.snoc (sg false) rfl hown1
       have hB2:= (hB.alloc hbr _).grown hgrow (by simp; omega) (Own.block hO)
       clear hown1 hgrow hO hB
       have hcv:= Own.run hO2 (by simp)
       go_wp2
       go_ret
       have e : Tw.S (L ++ [sg false]) = str (kb l):= by rw [<- HL.out, <- S_sgs]; simp [kb, sgs]
       exact ⟨congrArg (fun x => Ending.returned (Value.string x)) e, by rw [<- HBs.out]; exact hB2⟩
theorem bits_any (key : ByteArray) (w : World) (hn : key.size <= 4) :
   Calls Tryz.prog 32 #[.string key] w fun e w' => e = .returned (.string (str (kb key.data.toList))) /\ Below w.heap.size w w' :=
 bits_raw key key.data.toList key.size w rfl rfl (fun k h => ⟨h, rfl⟩) hn
def val : Bits -> Nat
 | [] => 0
 | b :: q => b.toNat * 2 ^ q.length + val q
def valT (q : Bits) (k : Nat) : Nat:= val (q.take k)
theorem val_snoc (q : Bits) (b : Bool) : val (q ++ [b]) = 2 * val q + b.toNat:= by
 induction q with
 | nil => simp [val]
 | cons a q ih =>
   simp only [List.cons_append, val, ih, List.length_append, List.length_cons, List.length_nil, Nat.zero_add, Nat.pow_succ]
   cases a <;> simp only [Bool.toNat_true, Bool.toNat_false, Nat.one_mul, Nat.zero_mul] <;> omega
theorem val_lt (q : Bits) : val q < 2 ^ q.length:= by
 induction q with
 | nil => simp [val]
 | cons a q ih =>
   simp only [val, List.length_cons, Nat.pow_succ]
   have : a.toNat <= 1:= by cases a <;> decide
   have : a.toNat * 2 ^ q.length <= 1 * 2 ^ q.length:= Nat.mul_le_mul_right _ this
   omega
theorem valT_succ (q : Bits) (k : Nat) (h : k < q.length) : valT q (k + 1) = 2 * valT q k + (q.getD k false).toNat:= by
 unfold valT
 rw [List.take_add_one, List.getElem?_eq_getElem h, Option.toList_some, val_snoc, List.getD_eq_getElem?_getD, List.getElem?_eq_getElem h]
 rfl
theorem valT_lt (q : Bits) (k : Nat) : valT q k < 2 ^ k:= by
 have h:= val_lt (q.take k)
 exact Nat.lt_of_lt_of_le h (Nat.pow_le_pow_right (by decide) (List.length_take_le _ _))
theorem toNat_bit (n : Nat) : (n % 2 == 1).toNat = n % 2:= by
 rcases Nat.mod_two_eq_zero_or_one n with e | e <;> rw [e] <;> rfl
theorem val_eight (c : UInt8) : val (eight c) = c.toNat:= by
 have h:= eight_nat c.toNat c.toNat_lt
 simp only [eight, val, bitOf, toNat_bit, List.length_cons, List.length_nil]
 simp only [Nat.reducePow, Nat.reduceAdd] at h ⊢
 omega
set_option maxRecDepth 20000 in
set_option maxHeartbeats 4000000 in
theorem single_raw (s : ByteArray) (q : Bits) (w : World) (hs : s.size = 8) (hq : q.length = 8) (hg : ∀ k (h : k < s.size), (s[k].toNat : Int) = 48 + ((q.getD k false).toNat : Int)) :
   Calls Tryz.prog 67 #[.string s] w fun e w' => e = .returned (.int .u8 (val q)) /\ w' = w:= by
 have HG : Hid _:= hg
 clear hg
 go_enter Tryz.func67, Tryz.ntmps67
 go_wp2
 go_loopw [3, 7] (fun b i wr => ∃ k : Nat, k <= 8 /\ i = .int .i64 k /\ b = .int .u8 (valT q k) /\ wr = w) (fun _ i _ => 8 - (intOf i).toNat)
 case atStart => exact ⟨0, by omega, rfl, rfl, rfl⟩
 case round =>
   obtain ⟨k, hk, rfl, rfl, rfl⟩:= hrel
   by_cases hlt : k < 8
   . have hv:= valT_lt q k
     have hp : 2 ^ k <= 128:= Nat.pow_le_pow_right (n:= 2) (by decide) (show k <= 7 by omega)
     have hs1:= valT_succ q k (by omega)
     obtain ⟨x, hx⟩ : ∃ x, x = (q.getD k false).toNat:= ⟨_, rfl⟩
     have hx1 : x <= 1:= by rw [hx]; cases q.getD k false <;> decide
     have hgk : (s[k].toNat : Int) = 48 + (x : Int):= by rw [hx]; exact HG.out k (by omega)
     rw [<- hx] at hs1
     have HX : Hid _:= hx
     clear hx
     generalize hV : valT q k = V at hs1 hv
     have hVb : V < 128:= by omega
     have hk8 : k < s.size:= by omega
     have hor : Go.bits .or .u8 (2 * (V : Int)) (x : Int) = ((2 * V + x : Nat) : Int):= by
       have:= u8_or_nat (2 * V) x (by omega) (by omega)
       rw [show (2 * (V : Int)) = ((2 * V : Nat) : Int) by omega, this]
       congr 1
       have t:= Nat.two_pow_add_eq_or_of_lt (i:= 1) (b:= x) (by omega) V
       rw [Nat.pow_one] at t
       exact t.symm
     have ho1 : Go.bits .or .u8 ((V : Int) * 2) (x : Int) = ((2 * V + x : Nat) : Int):= by rw [Int.mul_comm]; exact hor
     go_wp2
     go_roundw
     case rel =>
       refine ⟨k + 1, by omega, by go_num, ?_, trivial⟩
       rw [hs1, <- ho1, show (48 + (x : Int) - 48) = (x : Int) by omega]
     case measure => simp [intOf]; omega
   . obtain rfl : k = 8:= by omega
     go_wp2
     go_ret
     refine ⟨?_, rfl⟩
     have e : valT q 8 = val q:= by unfold valT; rw [List.take_of_length_le (by omega)]
     rw [<- e]
     rfl
theorem single_any (c : UInt8) (w : World) : Calls Tryz.prog 67 #[.string (str (eight c))] w fun e w' => e = .returned (.int .u8 c.toNat) /\ w' = w:= by
 have h:= single_raw (str (eight c)) (eight c) w (by rw [str_size]; rfl) rfl (fun k h => by
   rw [str_get, sg_nat]
   rw [List.getD_eq_getElem?_getD, List.getElem?_eq_getElem (by rw [str_size] at h; exact h), Option.getD_some]
   exact Int.natCast_add _ _)
 rw [val_eight] at h
 exact h
set_option maxRecDepth 20000 in
set_option maxHeartbeats 4000000 in
theorem key_any (l : List UInt8) (w : World) (h0 : l ≠ []) (hn : l.length <= 4) :
   Calls Tryz.prog 51 #[.string (str (kb l))] w fun e w' => e = .returned (.string (Tw.S l)) /\ Below w.heap.size w w':= by
 obtain ⟨i0, hi, hz0, hz1, hz2⟩:= info_parts u8info
 have HL0 : Hid _:= h0
 clear h0
 obtain ⟨base, hbase⟩ : ∃ x, x = w.heap.size:= ⟨_, rfl⟩
 have hB0 : Below base w w:= Below.refl _ _
 have hbb : base <= w.heap.size:= by omega
 have HBs : Hid (base = w.heap.size):= hbase
 clear hbase
 go_enter Tryz.func51, Tryz.ntmps51
 go_wp2
 go_loopw [0, 3] (fun s v wr => ∃ done rest : List UInt8, done ++ rest = l /\ s = .string (str (kb rest)) /\ Own base wr v done /\ Below base w wr /\ base <= wr.heap.size) (fun s _ _ => strSize s)
 case atStart => exact ⟨[], l, rfl, rfl, ⟨by simp [cellsB], Or.inl ⟨rfl, rfl⟩⟩, hB0, hbb⟩
 case round =>
   obtain ⟨done, rest, hdr, rfl, hO, hB, hbr⟩:= hrel
   have hlen : done.length <= 4:= by rw [<- hdr] at hn; simp at hn; omega
   have hrl : rest.length <= 4:= by rw [<- hdr] at hn; simp at hn; omega
   cases rest with
   | nil =>
     rw [List.append_nil] at hdr
     have HD : Hid _:= hdr
     have hsz : (str (kb [])).size = 1:= by rw [str_size]; rfl
     generalize str (kb []) = s0 at hsz
     have hne : done ≠ []:= by rw [hdr]; exact HL0.out
     have hcv:= Own.run hO hne
     clear hdr hne
     go_wp2
     go_ret
     exact ⟨by rw [<- HD.out]; rfl, by rw [<- HBs.out]; exact hB⟩
   | cons c r =>
     have hkb : kb (c :: r) = [true] ++ (eight c ++ kb r):= by simp [kb, kbs]
     have hsz : (str (kb (c :: r))).size = 9 * r.length + 10:= by rw [str_size, kb_length, List.length_cons]; omega
     have hx1 : (str (kb (c :: r))).extract 1 9 = str (eight c):= by
       have e1 : (str (kb (c :: r))).extract 0 9 = str ([true] ++ eight c):= by rw [str_take, hkb]; rfl
       have e2 : (str (kb (c :: r))).extract 1 9 = ((str (kb (c :: r))).extract 0 9).extract 1 9:= by
         rw [ByteArray.extract_extract]; simp
       rw [e2, e1]
       exact str_off (q:= [true]) (r:= eight c) rfl rfl
     have hx2 : (str (kb (c :: r))).extract 9 (9 * r.length + 10) = str (kb r):= by
       rw [hkb, <- List.append_assoc]
       exact str_off rfl (by rw [kb_length]; simp [eight]; omega)
     obtain ⟨m, hm⟩ : ∃ m, m = r.length:= ⟨_, rfl⟩
     have hm4 : m <= 4:= by simp at hrl; omega
     rw [<- hm] at hsz hx2
     have HM : Hid _:= hm
     have HD : Hid _:= hdr
     have hsg:= single_any c
     obtain ⟨E, hE⟩ : ∃ E, E = str (eight c):= ⟨_, rfl⟩
     obtain ⟨R0, hR0⟩ : ∃ R0, R0 = str (kb r):= ⟨_, rfl⟩
     rw [<- hE] at hsg hx1
     rw [<- hR0] at hx2
     have HE : Hid _:= hE
     have HR : Hid _:= hR0
     generalize hs0 : str (kb (c :: r)) = s0 at hsz hx1 hx2
     have HS : Hid _:= hs0
     clear hm hdr hE hR0 hs0 hkb
     have i1 : (1 : Int) <= 9:= by decide
     have i2 : (9 : Int) <= ((9 * m + 10 : Nat) : Int):= by omega
     have i3 : (9 : Int) <= 9 * (m : Int) + 10:= by omega
     have i4 : (9 : Int) < 9 * (m : Int) + 10:= by omega
     have i5 : (9 : Int) < ((9 * m + 10 : Nat) : Int):= by omega
     unfold Own at hO
     go_wp2_with (first
       | (go_at_call 67; refine (hsg _).mono ?_; rintro e w' ⟨rfl, hw⟩; have hw2:= hw.symm; subst hw2; clear hw)
       | (at_builtin; refine wpList_append_own _ rfl (.tmp 9) (.tmp 13) 93 rfl base 5 i0 (.int .u8 0) 1 1 Tryz.underlying93 hi hz0 hz1 hz2 rfl (by decide) _ _ _ rfl (hO.alloc _) ⟨wr.heap.size, 0, none⟩ 1 1 _ rfl rfl (cell_one_new _ _ _) ?c2 ?c3 ?c4 ?c5 ?_))
     case c2 => intro u hu; simp at hu; subst hu; rfl
     case c3 => unfold maxLen; omega
     case c4 => omega
     case c5 => simp; omega
     . intro v' w1 hown1 hgrow _
       have hO2:= Own.snoc c rfl hown1
       have hB2:= (hB.alloc hbr _).grown hgrow (by simp; omega) (Own.block hO)
       have hb2 : base <= w1.heap.size:= by have:= hB2.size; rw [HBs.out]; exact this
       clear hown1 hgrow hO hB
       go_wp2
       go_roundw
       case rel => exact ⟨done ++ [c], r, by rw [<- HD.out]; simp, by rw [HR.out], hO2, hB2, hb2⟩
       case measure =>
         show strSize (Value.string R0) < strSize (Value.string s0)
         simp only [strSize]
         rw [hsz, HR.out, str_size, kb_length, HM.out]
         omega
end Go.Proofs.YtddcbeeldjjmeaaGreat
namespace Go.Proofs.YtddcbeeldjjmeaaGreat
open Go Go.RowKit Go.Nest Go.Tm
set_option linter.unusedVariables false
set_option linter.unusedSimpArgs false
set_option maxHeartbeats 2000000 in
theorem within_any (n lo hi : Int) (w : World) :
   Calls Tryz.prog 39 #[.int .i64 n, .int .i64 lo, .int .i64 hi] w fun e w' => e = .returned (.bool (decide (lo <= n /\ n <= hi))) /\ w' = w:= by
 have key : (max n lo = min n hi) ↔ (lo <= n /\ n <= hi):= by omega
 have key2 : decide (max n lo = min n hi) = decide (lo <= n /\ n <= hi):= decide_eq_decide.2 key
 have key3 : (max n lo == min n hi) = decide (lo <= n /\ n <= hi):= by rw [<- key2]; rfl
 go_enter Tryz.func39, Tryz.ntmps39
 go_wp2
 go_ret
 exact ⟨congrArg (fun x => Ending.returned (.bool x)) (by simp), rfl⟩
set_option maxHeartbeats 2000000 in
theorem keyIn_any (n : Int) (w : World) :
   Calls Tryz.prog 22 #[.int .i64 n] w fun e w' => e = .returned (.bool (decide (1 <= n /\ n <= 4))) /\ w' = w:= by
 have h:= fun w => within_any n 1 4 w
 generalize decide (1 <= n /\ n <= 4) = u at h ⊢
 go_enter Tryz.func22, Tryz.ntmps22
 go_wp2_with (go_at_call 39; refine (h _).mono ?_; rintro e w' ⟨rfl, rfl⟩)
 go_ret
 exact ⟨rfl, rfl⟩
set_option maxHeartbeats 2000000 in
theorem lengthIn_any (n : Int) (w : World) :
   Calls Tryz.prog 30 #[.int .i64 n] w fun e w' => e = .returned (.bool (decide (0 <= n /\ n <= 20))) /\ w' = w:= by
 have h:= fun w => within_any n 0 20 w
 generalize decide (0 <= n /\ n <= 20) = u at h ⊢
 go_enter Tryz.func30, Tryz.ntmps30
 go_wp2_with (go_at_call 39; refine (h _).mono ?_; rintro e w' ⟨rfl, rfl⟩)
 go_ret
 exact ⟨rfl, rfl⟩
set_option maxHeartbeats 2000000 in
theorem widthIn_any (n : Int) (w : World) :
   Calls Tryz.prog 28 #[.int .i64 n] w fun e w' => e = .returned (.bool (decide (1 <= n /\ n <= 32))) /\ w' = w:= by
 have h:= fun w => within_any n 1 32 w
 generalize decide (1 <= n /\ n <= 32) = u at h ⊢
 go_enter Tryz.func28, Tryz.ntmps28
 go_wp2_with (go_at_call 39; refine (h _).mono ?_; rintro e w' ⟨rfl, rfl⟩)
 go_ret
 exact ⟨rfl, rfl⟩
set_option maxHeartbeats 2000000 in
theorem versionIn_any (n last : Int) (w : World) :
   Calls Tryz.prog 41 #[.int .i64 n, .int .i64 last] w fun e w' => e = .returned (.bool (decide (1 <= n /\ n <= last))) /\ w' = w:= by
 have h:= fun w => within_any n 1 last w
 generalize decide (1 <= n /\ n <= last) = u at h ⊢
 go_enter Tryz.func41, Tryz.ntmps41
 go_wp2_with (go_at_call 39; refine (h _).mono ?_; rintro e w' ⟨rfl, rfl⟩)
 go_ret
 exact ⟨rfl, rfl⟩
end Go.Proofs.YtddcbeeldjjmeaaGreat
