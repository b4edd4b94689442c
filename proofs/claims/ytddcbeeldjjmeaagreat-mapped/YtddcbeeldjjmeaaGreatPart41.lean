/- SEALING A TREE, AS AN ANSWER THAT TELLS HOW FAR: the. -/
import Derived.Test.YtddcbeeldjjmeaaGreatPart22
import Derived.Test.YtddcbeeldjjmeaaGreatPart10
namespace Go.Proofs.YtddcbeeldjjmeaaGreat
open Go Go.Conc Go.Eq Go.Nest Go.RowKit Go.Conc.Lib Go.ConcR.Gen Go.ConcN.Gen
open Go.ConcR (DC0 WgAt)
open Go.ConcN (WgLive)
theorem sealed_oracleF [Env] {FinN : Perm -> Perm -> Goroutine -> World -> Prop} (h0 : Env.low = 0) (hs : ∀ b, ¬ Env.sealed b) : OracleOkF link.tWg Tryz.prog FinN MainC SealedOrc:= by
 classical
 intro c π u w f args args' Post b rr hQ hx W H S hM K
 obtain ⟨hm, hC⟩:= hM
 obtain ⟨rfl, n, b0, t, hn, hW, rfl, hN, rfl⟩:= hQ
 obtain ⟨b1, e0, rfl⟩ : ∃ b1, π b0 = some b1 /\ args' = #[.pointer (ptr b1), .int .i64 n]:= by
   have hsz : args'.size = 2:= hx.1.symm
   rcases hx.get? 0 with ⟨e1, -⟩ | ⟨x, y, e1, e2, e3⟩
   . cases e1
   rcases hx.get? 1 with ⟨e4, -⟩ | ⟨x', y', e4, e5, e6⟩
   . cases e4
   cases e1; cases e4
   cases e6
   cases e3 with
   | @pointer _ a' ha =>
     obtain ⟨y, ey, hy⟩:= optA_ptr (l':= some a') (.inr ⟨_, _, rfl, rfl, ha⟩)
     rw [ey] at e2
     refine ⟨y, hy, Array.ext_getElem? fun i => ?_⟩
     rcases i with _ | _ | i
     . exact e2
     . exact e5
     . rw [Array.getElem?_eq_none (by omega)]; rfl
 have hown : ∀ x y, π x = some y -> ∀ a : Addr, a.block = y -> c.own a:= fun x y h a e => (H x y h a e).resolve_right fun h => hs _ h.1
 refine sealed_main (A:= fun y => y < w.heap.size /\ ¬ ∃ x, π x = some y /\ PlainB u x) (D:= fun y => ∃ x, π x = some y /\ PlainB u x) hn hW hm hC S (fun x h => h.1) (fun y hy a e => .inl (hown _ _ hy.choose_spec.1 a e)) ((nd_right W e0 (nd_plain hN)).mono fun y hy => ⟨⟨Nat.zero_le _, fun h => h.2 hy⟩, hy⟩) ?_
 intro c' w' b' O hS
 have hR : ∀ y, ((0 <= y /\ ¬ (y < w.heap.size /\ ¬ ∃ x, π x = some y /\ PlainB u x)) /\ ∀ a : Addr, a.block = y -> c'.own a) -> y < w.heap.size -> ∃ x, π x = some y /\ PlainB u x:= fun y hy hlt => Classical.byContradiction fun h => hy.1.2 ⟨hlt, h⟩
 have W':= made_rel (nt:= nodeT) (dg:= dgw n) hR W h0 hs (fun x y o h => O.same _ (.inl (hown x y h _ rfl))) O.os
 have hcf:= O.cfg
 refine K (.pointer (ptr (inv π u w b'))) (.pointer (ptr b')) _ _ w' c' ⟨wider_le W, fun a h => O.own a (.inl h), O.size, fun x y h => ?_, fun a ha _ => O.same a (.inl ha), O.os, O.output⟩ (.pointer ⟨wider_inv hR W hS, rfl, rfl, by rw [h0]; exact Nat.zero_le _⟩) W' (fun x y h a e => .inl ?_) O.snug
   ⟨by rw [hcf]; exact hm, by rw [hcf]; exact ⟨hC.deaf, hC.cur, hC.pend, hC.kids, hC.ub⟩⟩ ⟨_, rfl, ⟨by rw [made_size]; omega, fun y hy => made_old hy, rfl⟩, sd_made hR W' W hS⟩
 . unfold wider at h
   split at h
   . exact .inl h
   . split at h
     . cases h; exact .inr (Nat.le_add_right _ _)
     . cases h
 unfold wider at h
 split at h
 . exact O.own a (.inl (hown x y h a e))
 . split at h
   . rename_i h2
     cases h
     obtain ⟨-, t', ht⟩:= h2
     exact (show ((0 <= _ /\ ¬ (_ < w.heap.size /\ ¬ ∃ x, π x = some _ /\ PlainB u x)) /\ ∀ a : Addr, a.block = _ -> c'.own a) by cases t' <;> exact ht.1).2 a e
   . cases h
end Go.Proofs.YtddcbeeldjjmeaaGreat
