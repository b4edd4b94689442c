/- COMMIT's LOOP: one change after the other goes into a. -/
import Derived.Test.YtddcbeeldjjmeaaGreatPart33
import Derived.Test.YtddcbeeldjjmeaaGreatPart10
namespace Go.Proofs.YtddcbeeldjjmeaaGreat
open Go Go.RowKit Go.Nest Go.Tm Go.Proofs.YtddcbeeldjjmeaaGreat.Tw Go.Maps Go.Sort Go.Shelf Go.Eq
set_option linter.unusedVariables false
set_option linter.unusedSimpArgs false
variable {dg : DG}
def Far (dg : DG) (F : Lit -> Option Value) (B : KV) (L : List (List UInt8)) (w0 w : World) (r : Value) (j : Nat) : Prop :=
 ∃ b t B', r = .pointer (some ⟨b, 0, none⟩) /\ TAt dg w t b /\ Rep B'.bits t /\ Row B' /\ Half F B (L.take j) B' /\ Below w0.heap.size w0 w
theorem Far.below {F : Lit -> Option Value} {B : KV} {L : List (List UInt8)} {w0 w : World} {r : Value} {j : Nat} (h : Far dg F B L w0 w r j) : Below w0.heap.size w0 w:= by
 obtain ⟨_, _, _, _, _, _, _, _, h⟩:= h; exact h
theorem far_step {F : Lit -> Option Value} {B now : KV} {L : List (List UInt8)} {w0 w : World} {r : Value} {j : Nat} (hC : Chg F B now) (hL : L.Nodup /\ ∀ k, k ∈ L ↔ F (.string k) ≠ none) (h : Far dg F B L w0 w r j) (hj : j < L.length) :
   ∃ v : ByteArray, ∃ tt : Bool, F (.string L[j]) = some (.agg #[.string v, .bool tt]) /\ ∃ b, r = .pointer (some ⟨b, 0, none⟩) /\ ∀ w1, Below w.heap.size w w1 -> Calls Tryz.prog 35 #[.agg #[.string v, .bool tt], .pointer (some ⟨b, 0, none⟩), .string (str (kb L[j]))] w1 fun e w' => ∃ r', e = .returned r' /\ Far dg F B L w0 w' r' (j + 1) /\ Below w.heap.size w w':= by
 obtain ⟨b, t, B', rfl, hT, hR, hRow, hH, hB⟩:= h
 have hkF : F (.string L[j]) ≠ none:= (hL.2 _).1 (List.getElem_mem hj)
 have htk : L.take (j + 1) = L.take j ++ [L[j]]:= by rw [List.take_add_one, List.getElem?_eq_getElem hj]; rfl
 have hnew : L[j] ∉ L.take j:= fun hm => by
   obtain ⟨i, hi, e⟩:= List.getElem_of_mem hm
   rw [List.getElem_take] at e
   have hi' : i < j:= by rw [List.length_take] at hi; omega
   exact (List.pairwise_iff_getElem.1 hL.1) i j (by omega) hj hi' e
 cases hk : F (.string L[j]) with
 | none => exact absurd hk hkF
 | some o =>
   obtain ⟨k2, e2, hkall⟩:= hC.keys _ _ hk
   cases e2
   rcases hC.tells _ _ hk with ⟨x, rfl, hx⟩ | rfl
   . refine ⟨x, true, rfl, b, rfl, fun w1 hB1 => (in_there (dg:= dg) (v:= x) (hRow.fits hR hkall) (TAt.below hT hB1)).mono ?_⟩
     rintro e w' ⟨b', rfl, h1, h2⟩
     refine ⟨_, rfl, ⟨b', _, kput L[j] x B', rfl, h1, rep_put hR hRow _ _, hRow.put hkall hx, ?_, hB.trans ((below_mono hB1 h2).mono hB.size)⟩, below_mono hB1 h2⟩
     rw [htk]
     exact hH.there hRow hk
   . have hin : khas L[j] B' ≠ none:= by
       rw [hH L[j], if_neg hnew]
       exact hC.gone _ hk
     refine ⟨noText, false, rfl, b, rfl, fun w1 hB1 => (in_gone (dg:= dg) (t:= t) (q:= kb L[j]) (b:= b) ⟨B'.bits, hR, khas_mem_bits hin, fun x hx => ?_⟩ (TAt.below hT hB1)).mono ?_⟩
     . obtain ⟨y, hy, rfl⟩:= List.mem_map.1 hx
       have:= (kall_size _ (hRow.keys y hy).1).2
       show (kb y.1).length <= 1000
       rw [kb_length]; omega
     . rintro e w' ⟨b', rfl, h1, h2⟩
       refine ⟨_, rfl, ⟨b', _, kwo L[j] B', rfl, h1, rep_less hR hin, hRow.wo _, ?_, hB.trans ((below_mono hB1 h2).mono hB.size)⟩, below_mono hB1 h2⟩
       rw [htk]
       exact hH.gone hk
variable {dg : DG}
theorem row_keys {w : World} {base : Nat} {v : Value} {L : List (List UInt8)} (h : w.ownsRow base strT 1 v L.length (L.map encStr)) :
   ∃ p cap, v = .slice p L.length cap /\ ∀ (j : Nat) (h : j < L.length), ∃ g, p = some ⟨g, 0, none⟩ /\ w.cell? ⟨g, j, none⟩ = some (.string (Tw.S L[j])):= by
 obtain ⟨h1, ⟨rfl, h2⟩ | ⟨g, cap, cur, rfl, hg, hh, hn, hm, hc, ht⟩⟩:= h
 . exact ⟨none, 0, by rw [h2], fun j hj => absurd hj (by omega)⟩
 . refine ⟨_, cap, rfl, fun j hj => ⟨g, rfl, ?_⟩⟩
   have h3 : (L.map encStr)[j]? = some (.string (Tw.S L[j])):= by rw [List.getElem?_map, List.getElem?_eq_getElem hj]; rfl
   rw [<- ht, List.getElem?_take, if_pos (by omega), Array.getElem?_toList] at h3
   simp [World.cell?, hh, h3]
set_option maxRecDepth 20000 in
set_option maxHeartbeats 8000000 in
theorem cm_loop {a : Act} {w : World} {s bb cb vb n : Nat} {wd nw : Int} {F : Lit -> Option Value} {B now : KV} {t : T ByteArray} (hs : a.tmps.size = 53) (hd : a.defers = []) (h0 : tm a 0 = .pointer (some ⟨s, 0, none⟩)) (h5 : tm a 5 = .pointer (some ⟨bb, 0, none⟩))
   (hS : StoreAt w s wd bb cb vb nw) (hM : MapAt Tryz.prog strT w cb n F) (hn : n <= 8000000000000) (hT : TAt dg w t bb) (hR : Rep B.bits t) (hB : Row B) (hC : Chg F B now) (hN : Row now) :
   (cL (cR (cR (cR (bodyOf Tryz.f19))))).wp Tryz.prog (onlyN fun a' w' => a'.tmps.size = 53 /\ a'.defers = [] /\ tm a' 0 = .pointer (some ⟨s, 0, none⟩) /\ (∃ b t', tm a' 5 = .pointer (some ⟨b, 0, none⟩) /\ TAt dg w' t' b /\ Rep now.bits t') /\ Below w.heap.size w w') a w:= by
 obtain ⟨c0, c1, c2, c3, c4⟩:= hS.cells
 have hsl:= hS.lt
 have hcb:= hM.lt
 have hkeys:= fun w => keys_any cb w
 have hsort:= sorted_keys hM hn
 rw [act_out hs hd, show (List.range 53).map (tm a) = [tm a 0, tm a 1, tm a 2, tm a 3, tm a 4, tm a 5, tm a 6, tm a 7, tm a 8, tm a 9, tm a 10, tm a 11, tm a 12, tm a 13, tm a 14, tm a 15, tm a 16, tm a 17, tm a 18, tm a 19, tm a 20, tm a 21, tm a 22, tm a 23, tm a 24, tm a 25, tm a 26, tm a 27, tm a 28, tm a 29, tm a 30, tm a 31, tm a 32, tm a 33, tm a 34, tm a 35, tm a 36, tm a 37, tm a 38, tm a 39, tm a 40, tm a 41, tm a 42, tm a 43, tm a 44, tm a 45, tm a 46, tm a 47, tm a 48, tm a 49, tm a 50, tm a 51, tm a 52] from rfl, h0, h5]
 simp only [cL, cR, bodyOf, Tryz.f19, Option.getD_some]
 go_wp2_with (first
   | (go_at_call 34; refine (hkeys _).mono ?_; rintro e w' ⟨rfl, rfl⟩)
   | (go_at_call 33; refine hsort.mono ?_; rintro e w2 ⟨v, L, rfl, hL, hrow, hB2⟩; obtain ⟨p, cap, rfl, hcell⟩:= row_keys hrow))
 have hy2 : w.heap.size <= w2.heap.size:= hB2.size
 have hFar0 : Far dg F B L w w2 (.pointer (some ⟨bb, 0, none⟩)) 0:= ⟨bb, t, B, rfl, TAt.below hT hB2, hR, hB, by simpa using Half.start F B, hB2⟩
 have hwhole : ∀ (wr : World) (r : Value), Far dg F B L w wr r L.length -> ∃ b t', r = .pointer (some ⟨b, 0, none⟩) /\ TAt dg wr t' b /\ Rep now.bits t':= fun wr r h => by
   obtain ⟨b, t', B', h1, h2, h3, h4, h5, h6⟩:= h
   rw [List.take_length] at h5
   have:= h5.whole hC h4 hN hL.2
   subst this
   exact ⟨b, t', h1, h2, h3⟩
 have HW : Hid _:= hwhole
 have HL : Hid _:= hL
 have HC : Hid _:= hC
 have hlen : L.length <= 20:= nodup_le L kall hL.1 fun k hk => by
   have:= (hL.2 k).1 hk
   cases hv : F (.string k) with
   | none => exact absurd hv this
   | some o => obtain ⟨j, e, hj⟩:= hC.keys _ _ hv; cases e; exact hj
 clear hwhole hL hC hrow hsort hkeys
 go_loopw [5, 21] (fun r i wr => ∃ j : Nat, j <= L.length /\ i = .int .i64 j /\ Far dg F B L w wr r j /\ Below w2.heap.size w2 wr) (fun _ i _ => (L.length - intOf i).toNat)
 case atStart => exact ⟨0, by omega, rfl, hFar0, Below.refl _ _⟩
 case round =>
   obtain ⟨j, hj, rfl, hF, hBr⟩:= hrel
   by_cases hjn : j < L.length
   . obtain ⟨g, rfl, hcj⟩:= hcell j hjn
     obtain ⟨x, tt, hk, b, rfl, hin⟩:= far_step HC.out HL.out hF hjn
     have hkall : L[j] ∈ kall:= by obtain ⟨j', e, hj'⟩:= HC.out.keys _ _ hk; cases e; exact hj'
     have hks : (Tw.S L[j]).size <= 4:= by have:= (kall_size _ hkall).2; simpa [Tw.S, ByteArray.size] using this
     have hbits:= fun w => bits_any (Tw.S L[j]) w hks
     rw [S_data] at hbits
     have hkey:= strKey (Tw.S L[j]) (by omega)
     rw [S_data] at hkey
     have hBw : Below w.heap.size w wr:= hB2.trans (hBr.mono hy2)
     have hyr : w2.heap.size <= wr.heap.size:= hBr.size
     have hMr : MapAt Tryz.prog strT wr cb n F:= hM.same (hBw.block cb hcb)
     have hlkA : ∀ w', MapAt Tryz.prog strT w' cb n F -> (Instr.lookup 71 (.map (some cb)) (.string (Tw.S L[j])) false).run Tryz.prog w' = .ok (.agg #[.string x, .bool tt]) w':= fun w' h => by
       have:= h.look1 (t:= 71) strKeyed Tryz.underlying71 (zeroChange w') hkey
       rw [hk, Option.getD_some] at this
       exact this
     have HLK : Hid _:= hlkA
     have hlk:= hlkA _ hMr
     have hlk':= hlkA wr.drew (hMr.same rfl)
     have d2 : wr.cell? ⟨s, 2, none⟩ = some (.map (some cb)):= (hBw.cell (p:= ⟨s, 2, none⟩) hsl).trans c2
     have d2' : wr.drew.cell? ⟨s, 2, none⟩ = some (.map (some cb)):= d2
     have hcj' : wr.cell? ⟨g, j, none⟩ = some (.string (Tw.S L[j])):= (hBr.cell (p:= ⟨g, j, none⟩) (Tw.cell_lt hcj)).trans hcj
     have hsr : s < wr.heap.size:= Nat.lt_of_lt_of_le hsl hBw.size
     have hcr' : cb < wr.heap.size:= Nat.lt_of_lt_of_le hcb hBw.size
     clear hlkA hkey hk hkall hks hcell hcj c0 c1 c3 c4
     generalize Tw.S L[j] = K at *
     generalize str (kb L[j]) = KB at *
     go_wp2_with fail
     go_region_held3 (fun w' => w'.cell? ⟨s, 2, none⟩ = some (.map (some cb)) /\ (Instr.lookup 71 (.map (some cb)) (.string K) false).run Tryz.prog w' = .ok (.agg #[.string x, .bool tt]) w') (first | go_keep | exact ⟨d2, hlk⟩ | exact ⟨d2', hlk'⟩ | exact ⟨d3, hlk3⟩ | exact ⟨d4, hlk4⟩)
       (first
       | (go_at_call 32; refine (hbits _).mono ?_; rintro e w3 ⟨rfl, hB3⟩; have d3 : w3.cell? ⟨s, 2, none⟩ = some (.map (some cb)):= (hB3.cell (p:= ⟨s, 2, none⟩) (by show s < wr.heap.size; exact hsr)).trans d2; have hlk3:= HLK.out w3 (MapAt.same (w:= wr) hMr (hB3.block cb (by show cb < wr.heap.size; exact hcr'))))
       | (go_at_call 35; refine (hin _ (below_mono (below_drewN wr.heap.size wr 1) hB3)).mono ?_; rintro e w4 ⟨r4, rfl, hF4, hB4'⟩; have hB4 : Below w.heap.size w w4:= hF4.below; have d4 : w4.cell? ⟨s, 2, none⟩ = some (.map (some cb)):= (hB4.cell (p:= ⟨s, 2, none⟩) hsl).trans c2; have hlk4:= HLK.out w4 (MapAt.same (w:= w) hM (hB4.block cb hcb))))
     all_goals (have hBz : Below w2.heap.size w2 w4:= hBr.trans (hB4'.mono hyr))
     all_goals (go_wp2_with fail)
     all_goals exact ⟨⟨j + 1, by omega, by go_num, hF4, hBz⟩, by simp [intOf]; omega⟩
   . obtain rfl : j = L.length:= by omega
     go_wp2_with fail
     exact ⟨rfl, rfl, rfl, HW.out _ _ hF, hB2.trans (hBr.mono hy2)⟩
end Go.Proofs.YtddcbeeldjjmeaaGreat
