/- The document's Change. -/
import Derived.Test.YtoimmapdkapheaaFLy
namespace Go.Proofs.Ytoimmapdkapheaa
set_option maxRecDepth 4000
open Go.RowKit

set_option maxRecDepth 100000 in
set_option maxHeartbeats 16000000 in
theorem rchg_any {F : Nat → Prop} {w : World} {q : Nat} {A A' : Wd} {n a b code : Int} {r x y z : Bool} (h : (FmT q A).In F w) (hd : ChgD A n a b (chgT r x y z) code A') :
    Calls Try.prog 30 #[.pointer (some ⟨q, 0, none⟩), .int .i64 n, .int .i64 a, .int .i64 b, .bool r, .agg #[.bool x, .bool y], .bool z] w (FmP F w q A' code) := by
  have HB0 : Below w.heap.size w (w.alloc (.cells #[.bool x, .bool y] 31)) := new_below _ _
  have HX0 : Laid (w.alloc (.cells #[.bool x, .bool y] 31)) w.heap.size 31 #[.bool x, .bool y] := Laid.new _ _ _
  obtain ⟨F0, h0, hcl⟩ := (In.below h HB0).next
  have HR : Hid (Bec F w (FmT q A) (w.alloc (.cells #[.bool x, .bool y] 31))) := In.below h HB0
  clear h
  generalize hW : w.alloc (.cells #[.bool x, .bool y] 31) = W at *
  obtain ⟨⟨v, T⟩, hT, h⟩ := h0
  simp only at h hT HR
  obtain ⟨tr, htr⟩ : ∃ tr, tr = chgT r x y z := ⟨_, rfl⟩
  rw [← htr] at hd
  have HTR : Hid (tr = chgT r x y z) := htr
  clear htr
  rcases hd with ⟨h1, rfl, rfl⟩ | ⟨s, hs, hd⟩
  · have hf := rfind_no (n := n) (FmX.box h) (FmX.row h) hT.few (by rw [hT.eq]; exact h1)
    clear h hT h1 hcl HB0 HX0
    go_enter Try.func30, Try.ntmps30
    go_wp2_with fail
    refine hf.mono ?_
    rintro e w1 ⟨rfl, hw⟩
    obtain rfl := hw.symm
    clear hw
    go_wp2
    go_ret
    exact ⟨rfl, HR.out⟩
  · obtain ⟨i, hi, hin, his⟩ := lk_mem (T := T) (by rw [hT.eq]; exact hs)
    have hf := rfind_yes (FmX.box h) (FmX.row h) hT.few hT.nod hi hin
    have hsp := fun w => rspan_any a b w
    have hp1 : ¬ (i : Int) < 0 := by omega
    by_cases hS : SpanA a b
    · have hd2 : (∃ p, a ≤ p ∧ p < b ∧ s.f p = none) ∧ code = 3 ∧ A' = A ∨ (∀ p, a ≤ p → p < b → s.f p ≠ none) ∧ ∃ M, CanA (mapA s.f a b tr) M ∧ ((64 < M.length ∧ code = 5 ∧ A' = A) ∨ (M.length ≤ 64 ∧ code = 0 ∧ A' = A.set n (some ⟨mapA s.f a b tr, s.wd⟩))) := by
        rcases hd with ⟨h, _⟩ | ⟨_, h⟩ | ⟨_, h⟩
        · exact absurd hS h
        · exact Or.inl h
        · exact Or.inr h
      clear hd
      rw [show spanB a b = true by rw [spanB_iff]; exact hS] at hsp
      obtain ⟨ha0, hab, hb4⟩ := hS
      obtain ⟨a, rfl⟩ : ∃ m : Nat, a = m := ⟨a.toNat, by omega⟩
      obtain ⟨b, rfl⟩ : ∃ m : Nat, b = m := ⟨b.toNat, by omega⟩
      obtain ⟨g, c, hv, hlt, hat⟩ := fm_at h hi
      subst hv
      have hsee := (fm_see h hi).1
      have hfew := hT.few
      have c0 : W.cell? ⟨q, 0, none⟩ = some (.slice (some ⟨g, 0, none⟩) T.length c) := by rw [(FmX.box h).cell]; rfl
      obtain ⟨-, c1, -⟩ := rSp.at hat
      have HBX : Hid (Laid W q 29 #[.slice (some ⟨g, 0, none⟩) T.length c]) := FmX.box h
      have HRO : Hid (Row rSp 0 W (.slice (some ⟨g, 0, none⟩) (heads T).length c) (heads T)) := by
        have := FmX.row h
        rwa [heads_len]
      have HXD : Hid (Laid W w.heap.size 31 #[.bool x, .bool y]) := HX0
      have HI : Hid (i < T.length) := hi
      have HFE : Hid (T.length ≤ 255) := hfew
      have HFIN : Hid (∀ (M : List AAr) (gp cp : Nat) (W2 w1 : World), CanA (mapA s.f a b tr) M → M.length ≤ 64 → Row rAPg W.heap.size W2 (.slice (some ⟨gp, 0, none⟩) 4096 cp) (pagesA (mapA s.f a b tr)) → Below W.heap.size W W2 → Below W2.heap.size W2 w1 →
          Bec F w (FmT q (A.set n (some ⟨mapA s.f a b tr, s.wd⟩))) (w1.setCell ⟨g, i * 3 + 1, none⟩ (.slice (some ⟨gp, 0, none⟩) 4096 cp))) := fun M gp cp W2 w1 hM h4 hr hb hb2 => by
        have k1 : Bec F0 W ((Th.row rAPg (.slice (some ⟨gp, 0, none⟩) 4096 cp) (pagesA (mapA s.f a b tr))).and (FmX q (.slice (some ⟨g, 0, none⟩) T.length c) T)) w1 := ((Bec.refl h).new (row_new hr hb)).below hb2
        have k2 := hcl (fm_pages k1 hi)
        rw [his] at k2
        have hso : s.ok := (hT.ok n s hs).2
        have := ly_end (x := { (T.getD i zT).1 with gp := gp, cp := cp }) (f := mapA s.f a b tr) (wd := s.wd) k2 hT hi rfl (mapS_ok hso hM h4)
        rwa [show ({ (T.getD i zT).1 with gp := gp, cp := cp } : SpV).n = n from hin] at this
      rw [his] at hsee
      generalize hx : (T.getD i zT).1 = xx at *
      obtain ⟨xn, gp0, cp0, gw0, cw0⟩ := xx
      unfold SpV.vp at c1 hsee
      try simp only at c1 hsee
      have hil : (i : Int) < (T.length : Int) := by omega
      have hi0 : (0 : Int) ≤ (i : Int) := by omega
      have hE1 : Laid (W.alloc (.cells #[] 72)) W.heap.size 72 #[] := Laid.new _ _ _
      have hs1 : Seen rAPg (W.alloc (.cells #[] 72)) (some ⟨gp0, 0, none⟩) cp0 (pagesA s.f) := hsee.seen.2.below (new_below _ _)
      have hc1 : ∀ u, (W.alloc u).cell? ⟨q, 0, none⟩ = some (.slice (some ⟨g, 0, none⟩) T.length c) := fun u => (cell_alloc_old HBX.out.lt 0 u).trans c0
      have hc2 : ∀ u, (W.alloc u).cell? ⟨g, i * 3 + 1, none⟩ = some (.slice (some ⟨gp0, 0, none⟩) 4096 cp0) := fun u => (cell_alloc_old hlt _ u).trans c1
      have HC1 : Hid (W.cell? ⟨g, i * 3 + 1, none⟩ = some (.slice (some ⟨gp0, 0, none⟩) 4096 cp0) ∧ g < W.heap.size) := ⟨c1, hlt⟩
      clear h hT hcl HB0 HX0 hs hi hin his hat hsee hx hfew c0 c1 hlt
      generalize hTL : T.length = len at *
      clear hTL
      go_enter Try.func30, Try.ntmps30
      go_wp2_with fail
      refine hf.mono ?_
      rintro e w1 ⟨rfl, hw⟩
      obtain rfl := hw.symm
      clear hw
      go_wp2_with fail
      refine (hsp _).mono ?_
      rintro e w1 ⟨rfl, hw⟩
      obtain rfl := hw.symm
      clear hw hf hsp hW
      go_wp2_with (at_builtin; refine list_appN APg.kin rfl _ _ rfl (pagesA s.f) rfl (some ⟨gp0, 0, none⟩) 4096 cp0 rfl (pages_len _) (by decide) (by unfold maxLen; omega) (by decide) hE1 hs1 ?_)
      intro cp W2 hrow hb2
      have hP0 : Row rAPg (W.heap.size + 1) W2 (.slice (some ⟨W.heap.size + 1, 0, none⟩) 4096 cp) (pagesA s.f) := by simpa using hrow
      have HB2 : Hid (Below W.heap.size W W2) := (new_below W _).trans (hb2.mono (by simp))
      have hch := rchange_any (hP0.lower (B' := W.heap.size) (by omega)) a b (by omega) (by omega) r x y z
      rw [← HTR.out] at hch
      have hxd := HXD.out.below HB2.out
      have z0 : W2.cell? ⟨w.heap.size, 0, none⟩ = some (.bool x) := by rw [hxd.cell]; rfl
      have z1 : W2.cell? ⟨w.heap.size, 1, none⟩ = some (.bool y) := by rw [hxd.cell]; rfl
      clear hrow hb2 hE1 hs1 hc1 hc2 hP0 hxd
      go_wp2_with fail
      refine hch.mono ?_
      intro e w3 hcp
      rcases hcp with ⟨hall, rfl, hr3, hk3⟩ | ⟨hex, rfl, hr3, hk3⟩
      · have HB3 : Hid (Below W.heap.size W w3) := HB2.out.trans (hk3.below HB2.out.size fun c _ e => by rw [e]; omega)
        obtain ⟨M, hM, hd3⟩ : ∃ M, CanA (mapA s.f a b tr) M ∧ ((64 < M.length ∧ code = 5 ∧ A' = A) ∨ (M.length ≤ 64 ∧ code = 0 ∧ A' = A.set n (some ⟨mapA s.f a b tr, s.wd⟩))) := by
          rcases hd2 with ⟨⟨p, p1, p2, p3⟩, _⟩ | ⟨_, h⟩
          · exact absurd p3 (hall p p1 p2)
          · exact h
        have hfit := fits_any (cp := cp) (HBX.out.below HB3.out) (i := i) HI.out HFE.out ((HB3.out.cell HC1.out.2).trans HC1.out.1) ((HRO.out.below HB3.out).frozen _) (Nat.lt_of_lt_of_le HC1.out.2 HB3.out.size) hr3.sn hM
        have HP3 : Hid (Row rAPg W.heap.size w3 (.slice (some ⟨W.heap.size + 1, 0, none⟩) 4096 cp) (pagesA (mapA s.f a b tr))) := hr3
        have HM : Hid _ := hM
        have HD3 : Hid _ := hd3
        clear hch hall hr3 hk3 hd2 hM hd3 z0 z1 HB2
        go_wp2_with fail
        refine hfit.mono ?_
        intro e w4 hfp
        have HE : Hid (FmP F w q A' code e w4) := by
          rcases hfp with ⟨h64, rfl, hb⟩ | ⟨h64, rfl, w5, hb, rfl⟩
          · rcases HD3.out with ⟨-, rfl, rfl⟩ | ⟨h, -⟩
            · exact ⟨rfl, HR.out.below (below_call' HB3.out hb)⟩
            · omega
          · rcases HD3.out with ⟨h, -⟩ | ⟨-, rfl, rfl⟩
            · omega
            · exact ⟨rfl, HFIN.out M _ _ _ _ HM.out h64 HP3.out HB3.out hb⟩
        have hee : e = .returned (.int .i64 code) := HE.out.1
        subst hee
        clear hfp hfit
        go_wp2
        go_ret
        exact HE.out
      · have HB3 : Hid (Below W.heap.size W w3) := HB2.out.trans (hk3.below HB2.out.size fun c _ e => by rw [e]; omega)
        have HE : Hid (FmP F w q A' code (.returned (.int .i64 3)) w3) := by
          rcases hd2 with ⟨_, rfl, rfl⟩ | ⟨h, _⟩
          · exact ⟨rfl, HR.out.below HB3.out⟩
          · obtain ⟨p, p1, p2, p3⟩ := hex
            exact absurd p3 (h p p1 p2)
        clear hch hex hr3 hk3 hd2 z0 z1
        go_wp2
        go_ret
        exact HE.out
    · have hd2 : code = 1 ∧ A' = A := by
        rcases hd with ⟨_, h⟩ | ⟨h, _⟩ | ⟨h, _⟩
        · exact h
        · exact absurd h hS
        · exact absurd h hS
      obtain ⟨rfl, rfl⟩ := hd2
      rw [show spanB a b = false by rw [← Bool.not_eq_true, spanB_iff]; exact hS] at hsp
      clear h hT hcl HB0 HX0 hs hi hin his hd
      go_enter Try.func30, Try.ntmps30
      go_wp2_with fail
      refine hf.mono ?_
      rintro e w1 ⟨rfl, hw⟩
      obtain rfl := hw.symm
      clear hw
      go_wp2_with fail
      refine (hsp _).mono ?_
      rintro e w1 ⟨rfl, hw⟩
      obtain rfl := hw.symm
      clear hw
      go_wp2
      go_ret
      exact ⟨rfl, HR.out⟩
end Go.Proofs.Ytoimmapdkapheaa
