/- The document's list of some pages. -/
import Derived.Test.YtoimmapdkapheaaARef
namespace Go.Proofs.Ytoimmapdkapheaa
set_option maxRecDepth 4000
open Go.RowKit

theorem eqP_pg (s t : Option Pg) : eqP (pgA s) (pgA t) = decide (s = t) := by
  by_cases h : s = t
  · subst h
    rw [(eqP_iff _ _).2 rfl, decide_eq_true rfl]
  · rw [decide_eq_false h]
    cases hq : eqP (pgA s) (pgA t) with
    | false => rfl
    | true => exact absurd (pgA_inj ((eqP_iff _ _).1 hq)) h

set_option maxRecDepth 100000 in
set_option maxHeartbeats 8000000 in
theorem to_any {w : World} {ao : Option Addr} {c : Nat} {f : Int → Option Pg} {M : List AAr} (hs : Sn rAPg w ao (pagesA f)) (hM : CanA f M) :
    Calls Try.prog 35 #[.slice ao 4096 c] w fun e w' => ∃ v, e = .returned (.tuple #[v, .bool (decide (M.length ≤ 64))]) ∧ Row rAAr w.heap.size w' v M ∧ Below w.heap.size w w' := by
  have HS : Hid (Sn rAPg w ao (pagesA f)) := hs
  have HM : Hid (CanA f M) := hM
  clear hs hM
  go_enter Try.func35, Try.ntmps35
  go_wp2
  go_loopw [4, 5] (fun ov iv W => ∃ (n : Nat) (T : List AAr), n ≤ 4096 ∧ iv = .int .i64 n ∧ Hid (Row rAAr w.heap.size W ov T) ∧ Hid (TilA f n T) ∧ Hid (T.length ≤ n) ∧ Hid (n = 0 ∨ n = 4096 ∨ f ((n : Int) - 1) ≠ f n) ∧ Hid (Below w.heap.size w W)) (fun _ iv _ => 4096 - (intOf iv).toNat)
  case atStart => exact ⟨0, [], by omega, rfl, Row.nil _ _ _, TilA.nil f, Nat.le_refl _, Or.inl rfl, Below.refl _ _⟩
  case round =>
    obtain ⟨n, T, hn, rfl, HV, HT, HTL, HE, HB⟩ := hrel
    by_cases hlt : n < 4096
    · have hltz : (n : Int) < 4096 := by omega
      have HAS : Hid (∀ (k : Nat) (W : World), k < 4096 → Below w.heap.size w W → ∃ g off, ao = some ⟨g, off, none⟩ ∧ g < W.heap.size ∧ W.cell? ⟨g, off + k * 4, none⟩ = some (.bool (pgA (f k)).is) ∧ W.cell? ⟨g, off + k * 4 + 1, none⟩ = some (.bool (pgA (f k)).w) ∧ W.cell? ⟨g, off + k * 4 + 2, none⟩ = some (.bool (pgA (f k)).x) ∧ W.cell? ⟨g, off + k * 4 + 3, none⟩ = some (.bool (pgA (f k)).h)) := fun k W hk hb => APg.sn (HS.out.below hb) hk
      have HV0 : Hid (Row rAAr w.heap.size wr u4 T) := HV
      obtain ⟨W0, hW0⟩ : ∃ W0, W0 = wr := ⟨_, rfl⟩
      have HW0 : Hid (W0 = wr) := hW0
      clear hW0
      go_wp2
      go_loopw [6] (fun tv W => ∃ m : Nat, n < m ∧ m ≤ 4096 ∧ tv = .int .i64 m ∧ Hid (∀ p : Int, (n : Int) ≤ p → p < (m : Int) → f p = f n) ∧ Hid (∃ j, W = W0.drewN j)) (fun tv _ => 4096 - (intOf tv).toNat)
      case atStart => exact ⟨n + 1, by omega, by omega, by go_num, fun p h1 h2 => by rw [show p = (n : Int) by omega], ⟨0, HW0.out.symm⟩⟩
      case round =>
        obtain ⟨m, hm1, hm2, rfl, HP, HJ⟩ := hrel
        obtain ⟨j, hj⟩ := HJ.out
        have hHB : Below w.heap.size w wr := by
          rw [hj, HW0.out]
          exact below_drewN HB.out j
        by_cases hm4 : m < 4096
        · have hmz : (m : Int) < 4096 := by omega
          obtain ⟨g, off, rfl, hg, c0, c1, c2, c3⟩ := HAS.out n wr hlt hHB
          obtain ⟨g', off', e', -, d0, d1, d2, d3⟩ := HAS.out m wr hm4 hHB
          cases e'
          have hq := fun w => eql_pg (pgA (f m)) (pgA (f n)) w
          rw [eqP_pg] at hq
          have HJ2 : Hid (∀ i, ∃ j, wr.drewN i = W0.drewN j) := fun i => ⟨j + i, by rw [hj, World.drewN_drewN]⟩
          by_cases hfe : f m = f n
          · rw [decide_eq_true hfe] at hq
            have HP2 : Hid (∀ p : Int, (n : Int) ≤ p → p < ((m + 1 : Nat) : Int) → f p = f n) := fun p h1 h2 => by
              by_cases h3 : p < (m : Int)
              · exact HP.out p h1 h3
              · rw [show p = (m : Int) by omega, hfe]
            generalize pgA (f m) = x at *
            generalize pgA (f n) = y at *
            unfold pv at hq
            clear hfe hj hHB HJ HP
            go_wp2
            go_quiet (fail)
            go_wp2
            go_roundw
            case rel => exact ⟨m + 1, by omega, by omega, by go_num, HP2, HJ2.out _⟩
            case measure => simp only [intOf]; omega
          · rw [decide_eq_false hfe] at hq
            have HX : Hid (m = 0 ∨ m = 4096 ∨ f ((m : Int) - 1) ≠ f m) := by
              refine Or.inr (Or.inr ?_)
              rw [HP.out ((m : Int) - 1) (by omega) (by omega)]
              exact fun e => hfe e.symm
            have HBW : Hid (Below w.heap.size w wr) := hHB
            have HVW : Hid (Row rAAr w.heap.size wr u4 T) := by
              rw [hj]
              exact (show Row rAAr w.heap.size W0 u4 T from by rw [HW0.out]; exact HV0.out).below (below_drewN (Below.refl _ _) j)
            have HTLM : Hid (T.length ≤ n) := HTL
            cases hfn : f n with
            | none =>
              have HT2 : Hid (TilA f (m : Int) T) := HT.out.skip (by omega) fun p h1 h2 => by rw [HP.out p h1 h2, hfn]
              rw [hfn] at c0 c1 c2 c3 hq
              generalize pgA (f m) = x at *
              unfold pv at hq
              simp only [pgA] at c0 c1 c2 c3 hq
              clear hfn hfe hj hHB HJ HJ2 HP HT HV0 HE HAS
              go_wp2
              go_quiet (fail)
              go_wp2
              go_roundw
              case rel => exact ⟨m, T, by omega, rfl, HVW.out.below (below_drewN (Below.refl _ _) _), HT2, (show T.length ≤ m by have := HTLM.out; omega), HX, below_drewN HBW.out _⟩
              case measure => simp only [intOf]; omega
            | some t =>
              have HT2 : Hid (TilA f (m : Int) (T ++ [AAr.of n m t])) := HT.out.run (by omega) (by omega) (by omega) (fun p h1 h2 => by rw [HP.out p h1 h2, hfn]) (by
                rcases HE.out with h | h | h
                · exact Or.inl (by omega)
                · omega
                · exact Or.inr (by rw [← hfn]; exact h))
              rw [hfn] at c0 c1 c2 c3 hq
              generalize pgA (f m) = x at *
              unfold pv at hq
              obtain ⟨tw, tx, th⟩ := t
              simp only [pgA] at c0 c1 c2 c3 hq
              have hAr := fun w => rarea_any ⟨true, tw, tx, th⟩ n m w
              unfold pv av at hAr
              simp only at hAr
              clear hfn hfe hj hHB HJ HJ2 HP HT HV0 HE HAS
              go_wp2
              go_quiet (fail)
              go_wp2_with fail
              refine (hAr _).mono ?_
              rintro e w6 ⟨rfl, hb6⟩
              have HB6 : Hid (Below w.heap.size w w6) := below_call' (below_drewN HBW.out _) hb6
              have HR6 : Hid (∀ o1, Row rAAr w.heap.size (w6.alloc o1) u4 T) := fun o1 => ((HVW.out.below (below_drewN (Below.refl _ _) _)).below hb6).below (new_below _ _)
              clear hAr hb6 c0 c1 c2 c3 d0 d1 d2 d3 hq
              go_wp2_with (at_builtin; refine list_app AAr.kin rfl _ _ rfl w.heap.size _ T [⟨n, m, tw, tx, th⟩] rfl (HR6.out _) (some ⟨w6.heap.size, 0, none⟩) 1 1 rfl rfl ?a2 ?a3 ?a4 ?a5 ?_)
              case a2 => exact Seen.one (by simp) (At.new (R := rAAr) w6 ⟨n, m, tw, tx, th⟩ _ rfl) 1
              case a3 => have := HTLM.out; show T.length + 1 ≤ maxLen; unfold maxLen; omega
              case a4 => have := HTLM.out; show (T.length + 1) * 24 ≤ 140737488355328; omega
              case a5 => have := HB6.out.size; simp; omega
              intro v' w7 hrow hgrow
              have HR7 : Hid (Row rAAr w.heap.size w7 v' (T ++ [AAr.of n m (tw, tx, th)])) := hrow
              have HB7 : Hid (Below w.heap.size w w7) := (HB6.out.alloc HB6.out.size _).grown hgrow (by have := HB6.out.size; simp; omega) (fun k hk => ((HR6.out default).lt k hk).1)
              clear hrow hgrow HR6 HVW
              go_wp2
              go_roundw
              case rel => exact ⟨m, T ++ [AAr.of n m (tw, tx, th)], by omega, rfl, HR7, HT2, (show (T ++ [AAr.of n m (tw, tx, th)]).length ≤ m by have := HTLM.out; rw [List.length_append, List.length_cons, List.length_nil]; omega), HX, HB7⟩
              case measure => simp only [intOf]; omega
        · have hm : m = 4096 := by omega
          have hmz : decide ((m : Int) < 4096) = false := decide_eq_false (by omega)
          obtain ⟨g, off, rfl, hg, c0, c1, c2, c3⟩ := HAS.out n wr hlt hHB
          have HX : Hid (m = 0 ∨ m = 4096 ∨ f ((m : Int) - 1) ≠ f m) := by
            exact Or.inr (Or.inl hm)
          have HBW : Hid (Below w.heap.size w wr) := hHB
          have HVW : Hid (Row rAAr w.heap.size wr u4 T) := by
            rw [hj]
            exact (show Row rAAr w.heap.size W0 u4 T from by rw [HW0.out]; exact HV0.out).below (below_drewN (Below.refl _ _) j)
          have HTLM : Hid (T.length ≤ n) := HTL
          cases hfn : f n with
          | none =>
            have HT2 : Hid (TilA f (m : Int) T) := HT.out.skip (by omega) fun p h1 h2 => by rw [HP.out p h1 h2, hfn]
            rw [hfn] at c0 c1 c2 c3
            simp only [pgA] at c0 c1 c2 c3
            clear hm hfn hj hHB HJ HP HT HV0 HE HAS
            go_wp2
            go_quiet (fail)
            go_wp2
            go_roundw
            case rel => exact ⟨m, T, by omega, rfl, HVW.out.below (below_drewN (Below.refl _ _) _), HT2, (show T.length ≤ m by have := HTLM.out; omega), HX, below_drewN HBW.out _⟩
            case measure => simp only [intOf]; omega
          | some t =>
            have HT2 : Hid (TilA f (m : Int) (T ++ [AAr.of n m t])) := HT.out.run (by omega) (by omega) (by omega) (fun p h1 h2 => by rw [HP.out p h1 h2, hfn]) (by
              rcases HE.out with h | h | h
              · exact Or.inl (by omega)
              · omega
              · exact Or.inr (by rw [← hfn]; exact h))
            rw [hfn] at c0 c1 c2 c3
            obtain ⟨tw, tx, th⟩ := t
            simp only [pgA] at c0 c1 c2 c3
            have hAr := fun w => rarea_any ⟨true, tw, tx, th⟩ n m w
            unfold pv av at hAr
            simp only at hAr
            clear hm hfn hj hHB HJ HP HT HV0 HE HAS
            go_wp2
            go_quiet (fail)
            go_wp2_with fail
            refine (hAr _).mono ?_
            rintro e w6 ⟨rfl, hb6⟩
            have HB6 : Hid (Below w.heap.size w w6) := below_call' (below_drewN HBW.out _) hb6
            have HR6 : Hid (∀ o1, Row rAAr w.heap.size (w6.alloc o1) u4 T) := fun o1 => ((HVW.out.below (below_drewN (Below.refl _ _) _)).below hb6).below (new_below _ _)
            clear hAr hb6 c0 c1 c2 c3
            go_wp2_with (at_builtin; refine list_app AAr.kin rfl _ _ rfl w.heap.size _ T [⟨n, m, tw, tx, th⟩] rfl (HR6.out _) (some ⟨w6.heap.size, 0, none⟩) 1 1 rfl rfl ?a2 ?a3 ?a4 ?a5 ?_)
            case a2 => exact Seen.one (by simp) (At.new (R := rAAr) w6 ⟨n, m, tw, tx, th⟩ _ rfl) 1
            case a3 => have := HTLM.out; show T.length + 1 ≤ maxLen; unfold maxLen; omega
            case a4 => have := HTLM.out; show (T.length + 1) * 24 ≤ 140737488355328; omega
            case a5 => have := HB6.out.size; simp; omega
            intro v' w7 hrow hgrow
            have HR7 : Hid (Row rAAr w.heap.size w7 v' (T ++ [AAr.of n m (tw, tx, th)])) := hrow
            have HB7 : Hid (Below w.heap.size w w7) := (HB6.out.alloc HB6.out.size _).grown hgrow (by have := HB6.out.size; simp; omega) (fun k hk => ((HR6.out default).lt k hk).1)
            clear hrow hgrow HR6 HVW
            go_wp2
            go_roundw
            case rel => exact ⟨m, T ++ [AAr.of n m (tw, tx, th)], by omega, rfl, HR7, HT2, (show (T ++ [AAr.of n m (tw, tx, th)]).length ≤ m by have := HTLM.out; rw [List.length_append, List.length_cons, List.length_nil]; omega), HX, HB7⟩
            case measure => simp only [intOf]; omega
    · obtain rfl : n = 4096 := by omega
      have hTM : T = M := (TilA.can HT.out).uniq HM.out
      subst hTM
      obtain ⟨a4, c4, e4⟩ := HV.out.form
      subst e4
      have HR : Hid (Row rAAr w.heap.size wr (.slice a4 T.length c4) T) := HV
      have HD : Hid (decide ((T.length : Int) ≤ 64) = decide (T.length ≤ 64)) := by
        have : ((T.length : Int) ≤ 64) ↔ T.length ≤ 64 := by omega
        simp only [Hid, this]
      clear HV HT HTL HE HM
      go_wp2
      go_ret2
      refine ⟨.slice a4 T.length c4, ?_, HR.out, HB.out⟩
      show Ending.returned (.tuple #[.slice a4 T.length c4, .bool (decide ((T.length : Int) ≤ 64))]) = _
      rw [HD.out]
end Go.Proofs.Ytoimmapdkapheaa
