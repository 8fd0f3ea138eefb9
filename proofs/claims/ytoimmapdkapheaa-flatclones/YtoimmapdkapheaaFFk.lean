/- Fork. -/
import Derived.Test.YtoimmapdkapheaaFCl
namespace Go.Proofs.Ytoimmapdkapheaa
set_option maxRecDepth 4000
open Go.RowKit

/-- Behind the pages' clone: what the map's store leaves. -/
def FkOp (F : Nat → Prop) (w : World) (p m : Nat) (n : Int) (A' : Wd) (e : Ending) (w2 : World) : Prop :=
  ∃ g w3, e = .returned (.pointer (some ⟨g, 0, none⟩)) ∧ (Instr.mapUpdate 66 (.map (some m)) (.int .i64 n) (.pointer (some ⟨g, 0, none⟩))).run Try.prog w2 = .ok () w3 ∧ w2.cell? ⟨p, 0, none⟩ = some (.map (some m)) ∧ w3.cell? ⟨p, 0, none⟩ = some (.map (some m)) ∧ Hid (Bec F w (FlT p A') w3)
set_option maxRecDepth 100000 in
set_option maxHeartbeats 4000000 in
theorem fork_any {F : Nat → Prop} {w : World} {p : Nat} {A A' : Wd} {n k code : Int} (h : (FlT p A).In F w) (hn : okI n) (hd : ForkD A n k code A') : Calls Try.prog 14 #[.pointer (some ⟨p, 0, none⟩), .int .i64 n, .int .i64 k] w (FlP F w p A' code) := by
  have HR : Hid (Bec F w (FlT p A) w) := Bec.refl h
  obtain ⟨⟨m, l⟩, ⟨rfl, hok⟩, h⟩ := h
  simp only at h hok HR hd
  have hM := mayN_any k
  have hof := ofp_any (FlX.box h) (FlX.mp h) hn
  have c0 : w.cell? ⟨p, 0, none⟩ = some (.map (some m)) := by rw [(FlX.box h).cell]; rfl
  have lp := (FlX.box h).lt
  have okk : okN k → okI k := fun h => ⟨by have := h.1; omega, by have := h.2; omega⟩
  rcases hd with ⟨h1, rfl, rfl⟩ | ⟨h1, h2, rfl, rfl⟩ | ⟨h1, h2, h3, rfl, rfl⟩ | ⟨s, h1, h2, h3, rfl, rfl⟩
  · rw [show mayNB k = false by rw [← Bool.not_eq_true, mayNB_iff]; exact h1] at hM
    clear hof h1 hok h c0 lp okk
    go_enter Try.func14, Try.ntmps14
    go_wp2_with fail
    refine (hM _).mono ?_
    rintro e w1 ⟨rfl, hw⟩
    obtain rfl := hw.symm
    clear hw
    go_wp2
    go_ret
    exact ⟨rfl, HR.out⟩
  · rw [show mayNB k = true by rw [mayNB_iff]; exact h1] at hM
    rw [lk_none'.1 h2] at hof
    unfold ofR at hof
    simp only at hof
    clear h1 hok h c0 lp okk h2
    go_enter Try.func14, Try.ntmps14
    go_wp2_with fail
    refine (hM _).mono ?_
    rintro e w1 ⟨rfl, hw⟩
    obtain rfl := hw.symm
    clear hw
    go_wp2_with fail
    refine hof.mono ?_
    rintro e w1 ⟨rfl, hw⟩
    obtain rfl := hw.symm
    clear hw
    go_wp2
    go_ret
    exact ⟨rfl, HR.out⟩
  · rw [show mayNB k = true by rw [mayNB_iff]; exact h1] at hM
    have hh := has_any (FlX.box h) (FlX.mp h) (okk h1)
    rw [show (getL l k).isSome = true by rw [Option.isSome_iff_ne_none]; exact fun e => h3 (lk_none'.2 e)] at hh
    obtain ⟨x, hx⟩ := Option.isSome_iff_exists.1 (Option.isSome_iff_ne_none.2 fun e => h2 (lk_none'.2 e))
    rw [hx] at hof
    unfold ofR at hof
    simp only at hof
    clear h1 hok h c0 lp okk h2 h3 hx
    go_enter Try.func14, Try.ntmps14
    go_wp2_with fail
    refine (hM _).mono ?_
    rintro e w1 ⟨rfl, hw⟩
    obtain rfl := hw.symm
    clear hw
    go_wp2_with fail
    refine hof.mono ?_
    rintro e w1 ⟨rfl, hw⟩
    obtain rfl := hw.symm
    clear hw
    go_wp2_with fail
    refine hh.mono ?_
    rintro e w1 ⟨rfl, hw⟩
    obtain rfl := hw.symm
    clear hw
    go_wp2
    go_ret
    exact ⟨rfl, HR.out⟩
  · rw [show mayNB k = true by rw [mayNB_iff]; exact h1] at hM
    have hh := has_any (FlX.box h) (FlX.mp h) (okk h1)
    rw [lk_none'.1 h3, Option.isSome_none] at hh
    obtain ⟨g, hx⟩ := lk_some h2
    rw [hx] at hof
    unfold ofR at hof
    simp only at hof
    have hs := (hok n s h2).2
    have hcl : ∀ W, Below w.heap.size w W → Calls Try.prog 42 #[.pointer (some ⟨g, 0, none⟩)] W (FkOp F w p m k ((lkP l).set k (some s))) := fun W hb => by
      obtain ⟨B, b1, b2⟩ := ((Bec.refl h).below hb).next
      obtain ⟨G, g1⟩ := fl_see b1 hx
      refine (pclone_any g1).mono fun e w2 hp => ?_
      obtain ⟨g', rfl, hbec⟩ := hp
      obtain ⟨w3, r1, r2, r3⟩ := fl_new b1 hok h1 hs (lk_none'.1 h3) hbec
      have hB := below_call' hb hbec.frame
      have e2 : w2.cell? ⟨p, 0, none⟩ = some (.map (some m)) := by
        rw [World.cell?_of_block (w := w) (a := ⟨p, 0, none⟩) (hB.block p lp)]
        exact c0
      refine ⟨g', w3, rfl, r1, e2, ?_, b2 r2⟩
      rw [World.cell?_of_block (w := w2) (a := ⟨p, 0, none⟩) (r3.grown.block p (Nat.lt_of_lt_of_le lp hB.size) (by simpa using ((FlX.mp h).ne (FlX.box h)).symm))]
      exact e2
    clear h1 hok h okk h2 h3 hx hs HR
    go_enter Try.func14, Try.ntmps14
    go_wp2_with fail
    refine (hM _).mono ?_
    rintro e w1 ⟨rfl, hw⟩
    obtain rfl := hw.symm
    clear hw
    go_wp2_with fail
    refine hof.mono ?_
    rintro e w1 ⟨rfl, hw⟩
    obtain rfl := hw.symm
    clear hw
    go_wp2_with fail
    refine hh.mono ?_
    rintro e w1 ⟨rfl, hw⟩
    obtain rfl := hw.symm
    clear hw hM hof hh
    go_wp2_with fail
    go_region_held3 (fun w' => w'.cell? ⟨p, 0, none⟩ = some (.map (some m))) (go_keep) (first | (go_at_call 42; refine (hcl _ ?q1).mono ?_; (case q1 => first | exact Below.refl _ _ | exact (Below.refl _ _).drew); rintro e w2 ⟨g2, w3, rfl, hrun, x0, x1, HB⟩))
    go_wp2
    go_ret
    exact ⟨rfl, HB.out⟩
end Go.Proofs.Ytoimmapdkapheaa
