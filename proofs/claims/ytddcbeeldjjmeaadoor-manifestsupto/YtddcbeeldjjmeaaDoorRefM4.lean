/- The document's answer: EncodeManifest, of every manifest. -/
import Derived.Test.YtddcbeeldjjmeaaDoorRefM3
import Derived.Test.YtddcbeeldjjmeaaDoorDecM3
namespace Go.Proofs.YtddcbeeldjjmeaaDoor.Tw
open Go.RowKit Go.Proofs.YtddcbeeldjjmeaaDoor.Pu
set_option linter.unusedVariables false
set_option linter.unusedSimpArgs false

theorem rencM_any (m : Mf) (v : Value) (w : World) (hv : IRow w v m.digests) :
    Calls Tryd.prog 10 #[manV m v] w fun e w' => e = .returned (.tuple #[.string (S (encMB m)), .int .i64 (encME m)]) ∧ Below w.heap.size w w' := by
  by_cases hok : okM m = true
  · have hb : encM m = some (b8 m.width.toNat :: (e4 m.root.toNat ++ (eNum m.size.toNat ++ (eNum m.total.toNat ++ eDs m.digests)))) := by
      unfold encM; rw [if_pos hok]
    have hml := okM_len m hok
    obtain ⟨hw, hr, hs, ht, hn, hd⟩ := (okM_iff m).1 hok
    unfold encMB encME manV
    rw [hb]
    obtain ⟨wd, rt, sz, tt, ds⟩ := m
    simp only at hw hr hs ht hn hd hv hml ⊢
    obtain ⟨k, rfl⟩ : ∃ k : Nat, wd = k := ⟨wd.toNat, by omega⟩
    obtain ⟨s, rfl⟩ : ∃ k : Nat, sz = k := ⟨sz.toNat, by omega⟩
    obtain ⟨t, rfl⟩ : ∃ k : Nat, tt = k := ⟨tt.toNat, by omega⟩
    simp only [Int.toNat_natCast] at hr hd ⊢
    refine (rencM_run k s t rt ds v w hv (by omega) (by omega) hr (by omega) (by omega) hn hml).mono ?_
    rintro e w' ⟨h | h, hB⟩
    · exact ⟨h.2, hB⟩
    · exact absurd hd h.1
  · have hb : encM m = none := by unfold encM; rw [if_neg hok]
    unfold encMB encME manV
    rw [hb]
    have hno : ¬ _ := fun x => hok ((okM_iff m).2 x)
    obtain ⟨wd, rt, sz, tt, ds⟩ := m
    simp only at hno hv ⊢
    by_cases h1 : 1 ≤ wd ∧ wd ≤ 32
    · obtain ⟨k, rfl⟩ : ∃ k : Nat, wd = k := ⟨wd.toNat, by omega⟩
      simp only [Int.toNat_natCast] at hno
      cases h2 : okD k rt with
      | false => exact rencM_no2 k rt sz tt v w (by omega) (by omega) (Or.inl h2)
      | true =>
        by_cases h3 : 8 ≤ sz ∧ sz ≤ 1000
        · obtain ⟨p, cap, rfl, hc⟩ := id hv
          by_cases h4 : 1 ≤ tt ∧ tt ≤ 100000
          · by_cases h5 : (ds.length : Int) = (tt + sz - 1) / sz
            · obtain ⟨s, rfl⟩ : ∃ k : Nat, sz = k := ⟨sz.toNat, by omega⟩
              obtain ⟨t, rfl⟩ : ∃ k : Nat, tt = k := ⟨tt.toNat, by omega⟩
              have hl : ds.length ≤ 100000 := by
                have e := chunks_nat s t (by omega) (by omega)
                have h := chunks_le s t (by omega) (by omega)
                omega
              refine (rencM_run k s t rt ds _ w hv (by omega) (by omega) h2 (by omega) (by omega) h5 hl).mono ?_
              rintro e w' ⟨h | h, hB⟩
              · exact absurd ⟨h1, h2, h3, h4, h5, h.1⟩ hno
              · exact ⟨h.2, hB⟩
            · exact rencM_no3 k rt sz tt p ds.length cap w (by omega) (by omega) h2 h3 (Or.inr ⟨h4, h5⟩)
          · exact rencM_no3 k rt sz tt p ds.length cap w (by omega) (by omega) h2 h3 (Or.inl h4)
        · exact rencM_no2 k rt sz tt v w (by omega) (by omega) (Or.inr ⟨h2, h3⟩)
    · exact rencM_no1 wd rt sz tt v w h1
end Go.Proofs.YtddcbeeldjjmeaaDoor.Tw
