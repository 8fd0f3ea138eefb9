/- AreaChanges, walked. -/
import Derived.Test.YtaeodbeodacmaaaARgb
namespace Go.Proofs.Ytaeodbeodacmaaa
open Go.RowKit

theorem change_sure {L : List AAr} {a b : Int} (h : MayA L ∧ SpanA a b) (hc : ∀ p, a ≤ p → p < b → ownA L p ≠ none) (w : World) (ao : Option Addr) (c : Nat) (x y : Bool) (hs : Sn rAAr w ao L) (hm : L.length ≤ maxLen) :
    Calls Try.prog 24 #[.slice ao L.length c, .int .i64 a, .int .i64 b, .agg #[.bool x, .bool y]] w fun e w' => ∃ v u, e = .returned (.tuple #[v, u]) ∧ Hid (RgtA w' (layM L a b ((clipA a b L).map (AAr.turn fun p => (x, y, p.2.2)))) v u) ∧ Hid (Below w.heap.size w w') := by
  refine (change_any hs hm a b x y).mono fun e w' k => ?_
  have hcv := (cov_clip h.1.2 h.2.1 h.2.2.1).2 hc
  rcases k with ⟨_, _, k⟩ | ⟨_, k, _⟩ | ⟨k, _⟩
  · obtain ⟨v, u, rfl⟩ := k.pair
    exact ⟨v, u, rfl, ⟨w, w', k, Below.refl _ _⟩, k.2⟩
  · rw [hcv] at k; cases k
  · exact absurd h k
theorem advise_sure {L : List AAr} {a b : Int} (h : MayA L ∧ SpanA a b) (hc : ∀ p, a ≤ p → p < b → ownA L p ≠ none) (w : World) (ao : Option Addr) (c : Nat) (x : Bool) (hs : Sn rAAr w ao L) (hm : L.length ≤ maxLen) :
    Calls Try.prog 25 #[.slice ao L.length c, .int .i64 a, .int .i64 b, .bool x] w fun e w' => ∃ v u, e = .returned (.tuple #[v, u]) ∧ Hid (RgtA w' (layM L a b ((clipA a b L).map (AAr.turn fun p => (p.1, p.2.1, x)))) v u) ∧ Hid (Below w.heap.size w w') := by
  refine (advise_any hs hm a b x).mono fun e w' k => ?_
  have hcv := (cov_clip h.1.2 h.2.1 h.2.2.1).2 hc
  rcases k with ⟨_, _, k⟩ | ⟨_, k, _⟩ | ⟨k, _⟩
  · obtain ⟨v, u, rfl⟩ := k.pair
    exact ⟨v, u, rfl, ⟨w, w', k, Below.refl _ _⟩, k.2⟩
  · rw [hcv] at k; cases k
  · exact absurd h k
theorem EachS.gap {L : List AAr} {a b : Int} {t : Pg → Pg} {r : Except Int (List AAr)} (h : EachS L a b t r) (hm : MayA L ∧ SpanA a b) (hn : ∃ p : Int, a ≤ p ∧ p < b ∧ ownA L p = none) : r = .error 3 := by
  rcases h with ⟨h, _⟩ | ⟨_, _, h⟩ | ⟨_, h, _⟩
  · exact absurd hm h
  · exact h
  · obtain ⟨p, h1, h2, h3⟩ := hn
    exact absurd h3 (h p h1 h2)
theorem ChgW.yes {B : Nat} {w w' : World} {g c : Nat} {f : Int → Option Pg} {a b : Nat} {t : Pg → Pg} {e : Ending} (h : ChgW B w g c f a b t e w') (hc : ∀ p : Int, (a : Int) ≤ p → p < (b : Int) → f p ≠ none) : True ∧ e = .returned (.bool true) ∧ Row rAPg B w' (.slice (some ⟨g, 0, none⟩) 4096 c) (pagesA (mapA f a b t)) ∧ Keeps w w' (fun x => x = g) := by
  rcases h with ⟨_, h⟩ | ⟨⟨p, h1, h2, h3⟩, _⟩
  · exact ⟨trivial, h⟩
  · exact absurd h3 (hc p h1 h2)
theorem ChgW.no {B : Nat} {w w' : World} {g c : Nat} {f : Int → Option Pg} {a b : Nat} {t : Pg → Pg} {e : Ending} (h : ChgW B w g c f a b t e w') (hc : ∃ p : Int, (a : Int) ≤ p ∧ p < (b : Int) ∧ f p = none) : e = .returned (.bool false) ∧ Row rAPg B w' (.slice (some ⟨g, 0, none⟩) 4096 c) (pagesA f) ∧ Keeps w w' (fun x => x = g) := by
  rcases h with ⟨h, _⟩ | ⟨_, h⟩
  · obtain ⟨p, h1, h2, h3⟩ := hc
    exact absurd h3 (h p h1 h2)
  · exact h

set_option maxRecDepth 100000 in
set_option maxHeartbeats 16000000 in
theorem changes_any {w : World} {ao : Option Addr} {c : Nat} {L : List AAr} (hs : Sn rAAr w ao L) (hm : L.length ≤ maxLen) (dd : AAr) :
    Calls Try.prog 6 #[.slice ao L.length c, av dd] w fun e w' => e = .returned (.bool true) ∧ Below w.heap.size w w' := by
  obtain ⟨r1, s1, q1⟩ := change_tell L dd.a dd.b dd.w dd.x
  obtain ⟨r2, s2, q2⟩ := advise_tell L dd.a dd.b dd.h
  have z1 := fun h hc w ao c => change_sure (L := L) (a := dd.a) (b := dd.b) h hc w ao c dd.w dd.x
  have z2 := fun h hc w ao c => advise_sure (L := L) (a := dd.a) (b := dd.b) h hc w ao c dd.h
  have H0 : Hid (Bx1 w (w.alloc (.cells dd.arr 32)) dd) := Bx1.new w dd
  have hU := up_any (w.alloc (.cells dd.arr 32))
  have HS : Hid (Sn rAAr w ao L) := hs
  have HM : Hid (L.length ≤ maxLen) := hm
  have hm' : L.length ≤ 9223372036854775807 := by unfold maxLen at hm; omega
  have he := eq_code 1 1
  rw [beq_self_eq_true] at he
  have hSp := fun w => rspan_any dd.a dd.b w
  have HSP : Hid (spanB dd.a dd.b = true ↔ SpanA dd.a dd.b) := spanB_iff _ _
  clear hs hm
  obtain ⟨a, b, x2, x3, x4⟩ := dd
  unfold AAr.arr at H0 hU
  unfold av at *
  simp only at *
  by_cases h200 : L.length ≤ 200
  · have h200z : ¬ (200 : Int) < (L.length : Int) := by omega
    by_cases hMS : MayA L ∧ SpanA a b
    · have hSp' : spanB a b = true := HSP.out.2 hMS.2
      rw [hSp'] at hSp
      have HMS : Hid (MayA L ∧ SpanA a b) := hMS
      have hY := may_yes hMS.1
      have he3 := eq_code 3 3
      rw [beq_self_eq_true] at he3
      obtain ⟨n, rfl⟩ : ∃ n : Nat, a = n := ⟨a.toNat, by have := hMS.2.1; omega⟩
      obtain ⟨k, rfl⟩ : ∃ k : Nat, b = k := ⟨b.toNat, by have := hMS.2.1; have := hMS.2.2.1; omega⟩
      have hnk : n < k := by have := hMS.2.2.1; omega
      have hk4 : k ≤ 4096 := by have := hMS.2.2.2; omega
      by_cases hcv : ∀ p : Int, (n : Int) ≤ p → p < (k : Int) → ownA L p ≠ none
      · have HCV : Hid (∀ p : Int, (n : Int) ≤ p → p < (k : Int) → ownA L p ≠ none) := hcv
        have hk1 := z1 hMS hcv
        have hk2 := z2 hMS hcv
        clear q1 q2 s1 s2 z1 z2 hMS HSP hSp' he he3 hcv
        as_aux_lemma =>
        go_enter Try.func6, Try.ntmps6
        go_wp2_with fail
        refine hU.mono ?_
        rintro e w1 ⟨rfl, hb1⟩
        have H1 : Hid (Bx1 w w1 ⟨n, k, x2, x3, x4⟩) := H0.out.below hb1
        have HS1 : Hid (Sn rAAr w1 ao L) := HS.out.below H1.out.1
        clear hU hb1 H0 HS
        obtain ⟨c0, c1, c2, c3, c4⟩ := AAr.laid (d := ⟨n, k, x2, x3, x4⟩) (H1.out.2.1)
        simp only at c0 c1 c2 c3 c4
        go_wp2_with fail
        refine (hk1 w1 ao c HS1.out HM.out).mono ?_
        rintro e w2 ⟨v1, u1, rfl, G1, hb2⟩
        have H2 : Hid (Bx1 w w2 ⟨n, k, x2, x3, x4⟩) := H1.out.below hb2.out
        have HS2 : Hid (Sn rAAr w2 ao L) := HS1.out.below hb2.out
        clear c0 c1 c2 c3 c4 hb2 H1 HS1 hk1
        obtain ⟨c0, c1, c2, c3, c4⟩ := AAr.laid (d := ⟨n, k, x2, x3, x4⟩) (H2.out.2.1)
        simp only at c0 c1 c2 c3 c4
        go_wp2_with fail
        refine (hk2 w2 ao c HS2.out HM.out).mono ?_
        rintro e w3 ⟨v2, u2, rfl, G2, hb3⟩
        have H3 : Hid (Bx1 w w3 ⟨n, k, x2, x3, x4⟩) := H2.out.below hb3.out
        have HS3 : Hid (Sn rAAr w3 ao L) := HS2.out.below hb3.out
        have G1' : Hid (RgtA w3 (layM L n k ((clipA n k L).map (AAr.turn fun p => (x2, x3, p.2.2)))) v1 u1) := G1.out.below hb3.out
        clear c0 c1 c2 c3 c4 hb3 H2 HS2 hk2 G1
        obtain ⟨c0, c1, c2, c3, c4⟩ := AAr.laid (d := ⟨n, k, x2, x3, x4⟩) (H3.out.2.1)
        simp only at c0 c1 c2 c3 c4
        go_wp2_with fail
        refine (hY w3 ao c HS3.out HM.out).mono ?_
        rintro e w4 ⟨rfl, hb4⟩
        have H4 : Hid (Bx1 w w4 ⟨n, k, x2, x3, x4⟩) := H3.out.below hb4
        have HS4 : Hid (Sn rAAr w4 ao L) := HS3.out.below hb4
        have G1 : Hid (RgtA w4 (layM L n k ((clipA n k L).map (AAr.turn fun p => (x2, x3, p.2.2)))) v1 u1) := G1'.out.below hb4
        have G2' : Hid (RgtA w4 (layM L n k ((clipA n k L).map (AAr.turn fun p => (p.1, p.2.1, x4)))) v2 u2) := G2.out.below hb4
        have hO := of_any (c := c) HS4.out HMS.out.1
        clear c0 c1 c2 c3 c4 hb4 H3 HS3 hY G1' G2
        obtain ⟨c0, c1, c2, c3, c4⟩ := AAr.laid (d := ⟨n, k, x2, x3, x4⟩) (H4.out.2.1)
        simp only at c0 c1 c2 c3 c4
        go_wp2_with (go_at_call 22; refine (hSp _).mono ?_; rintro e w9 ⟨rfl, hw⟩; obtain rfl := hw.symm; clear hw)
        clear hSp
        refine hO.mono ?_
        rintro e w5 ⟨rfl, P5, hb5⟩
        have HB5 : Hid (Below w4.heap.size w4 w5) := hb5
        have HP5 : Hid (Row rAPg w4.heap.size w5 (.slice (some ⟨w4.heap.size, 0, none⟩) 4096 4096) (pagesA (ownA L))) := P5
        have hO2 := of_any (c := c) (HS4.out.below hb5) HMS.out.1
        clear hO P5 hb5 c0 c1 c2 c3 c4
        go_wp2_with fail
        refine hO2.mono ?_
        rintro e w6 ⟨rfl, P6, hb6⟩
        obtain ⟨g1, hg1⟩ : ∃ g1, w4.heap.size = g1 := ⟨_, rfl⟩
        obtain ⟨g2, hg2⟩ : ∃ g2, w5.heap.size = g2 := ⟨_, rfl⟩
        have hg12 : g1 < g2 := by
          have := (HP5.out.lt w4.heap.size rfl).2
          omega
        have HG1 : Hid (w4.heap.size = g1) := hg1
        have HB6 : Hid (Below w4.heap.size w4 w6) := below_call' HB5.out hb6
        have HP : Row rAPg g1 w6 (.slice (some ⟨g1, 0, none⟩) 4096 4096) (pagesA (ownA L)) := by
          rw [← hg1]
          exact HP5.out.below hb6
        have HQ : Hid (Row rAPg g2 w6 (.slice (some ⟨g2, 0, none⟩) 4096 4096) (pagesA (ownA L))) := by
          rw [← hg2]
          exact P6
        rw [hg1, hg2]
        have h1 := rchange_any HP n k (Nat.le_of_lt hnk) hk4 true x2 x3 false
        have H6 := H4.out.below HB6.out
        obtain ⟨c0, c1, c2, c3, c4⟩ := AAr.laid (d := ⟨n, k, x2, x3, x4⟩) (H6.2.1)
        simp only at c0 c1 c2 c3 c4
        clear hO2 P6 hb6 hg1 hg2 HP5 HB5 H6 HS4 HP
        go_wp2_with fail
        refine h1.mono ?_
        rintro e w7 h7
        obtain ⟨m1, e1, HP7, K7⟩ := h7.yes HCV.out
        subst e1
        have HQ7 := K7.row HQ.out fun g hg e => by cases hg; exact absurd (show g2 = g1 from e) (by omega)
        have HB7 : Hid (Below w4.heap.size w4 w7) := HB6.out.trans (K7.below HB6.out.size fun c _ e => by rw [e, ← HG1.out]; exact Nat.le_refl _)
        have HP7' : Hid (Row rAPg g1 w7 (.slice (some ⟨g1, 0, none⟩) 4096 4096) (pagesA (mapA (ownA L) n k (fun p => (x2, x3, p.2.2))))) := HP7
        have h2 := rchange_any HQ7 n k (Nat.le_of_lt hnk) hk4 false x2 x3 x4
        have H7 := H4.out.below HB7.out
        clear c0 c1 c2 c3 c4 h1 h7 HP7 K7 HQ7 HQ HB6 m1
        obtain ⟨c0, c1, c2, c3, c4⟩ := AAr.laid (d := ⟨n, k, x2, x3, x4⟩) (H7.2.1)
        simp only at c0 c1 c2 c3 c4
        go_wp2_with fail
        refine h2.mono ?_
        rintro e w8 h8
        obtain ⟨m1, e1, HQ8, K8⟩ := h8.yes HCV.out
        subst e1
        have HB8 : Hid (Below w4.heap.size w4 w8) := HB7.out.trans (K8.below HB7.out.size fun c _ e => by rw [e]; have := HG1.out; omega)
        have HP8 : Hid (Sn rAPg w8 (some ⟨g1, 0, none⟩) (pagesA (mapA (ownA L) n k (fun p => (x2, x3, p.2.2))))) := (K8.row HP7'.out fun g hg e => by cases hg; exact absurd (show g1 = g2 from e) (by omega)).sn
        have HQ8' : Hid (Sn rAPg w8 (some ⟨g2, 0, none⟩) (pagesA (mapA (ownA L) n k (fun p => (p.1, p.2.1, x4))))) := HQ8.sn
        have hr1 := right_of (c := 4096) (G1.out.below HB8.out) (can_map (fun p => (x2, x3, p.2.2)) HMS.out.1.2 HMS.out.2.1 HMS.out.2.2.1) HP8.out
        have G2w : Hid (RgtA w8 (layM L n k ((clipA n k L).map (AAr.turn fun p => (p.1, p.2.1, x4)))) v2 u2) := G2'.out.below HB8.out
        have H8' : Hid (Below w.heap.size w w8) := below_call' H4.out.1 HB8.out
        clear c0 c1 c2 c3 c4 H7 h2 h8 HQ8 K8 G1 G2' HP7' HB7 m1
        go_wp2_with fail
        refine hr1.mono ?_
        rintro e w10 ⟨rfl, hb10⟩
        have H10 : Hid (Below w.heap.size w w10) := below_call' H8'.out hb10
        have hr2 := right_of (c := 4096) (G2w.out.below hb10) (can_map (fun p => (p.1, p.2.1, x4)) HMS.out.1.2 HMS.out.2.1 HMS.out.2.2.1) (HQ8'.out.below hb10)
        clear hr1 hb10 HQ8' G2w HP8
        go_wp2_with fail
        refine hr2.mono ?_
        rintro e w11 ⟨rfl, hb11⟩
        have H11 : Hid (Below w.heap.size w w11) := below_call' H10.out hb11
        clear hr2 hb11
        go_wp2
        go_ret
        exact ⟨rfl, H11.out⟩
      · have HCV : Hid (∃ p : Int, (n : Int) ≤ p ∧ p < (k : Int) ∧ ownA L p = none) := Classical.byContradiction fun k => hcv fun p h1 h2 h3 => k ⟨p, h1, h2, h3⟩
        obtain rfl := s1.gap HMS.out HCV.out
        obtain rfl := s2.gap HMS.out HCV.out
        clear s1 s2 z1 z2 hMS HSP hSp' he hcv
        as_aux_lemma =>
        go_enter Try.func6, Try.ntmps6
        go_wp2_with fail
        refine hU.mono ?_
        rintro e w1 ⟨rfl, hb1⟩
        have H1 : Hid (Bx1 w w1 ⟨n, k, x2, x3, x4⟩) := H0.out.below hb1
        have HS1 : Hid (Sn rAAr w1 ao L) := HS.out.below H1.out.1
        clear hU hb1 H0 HS
        obtain ⟨c0, c1, c2, c3, c4⟩ := AAr.laid (d := ⟨n, k, x2, x3, x4⟩) (H1.out.2.1)
        simp only at c0 c1 c2 c3 c4
        go_wp2_with fail
        refine (q1 w1 ao c HS1.out HM.out).mono ?_
        rintro e w2 ⟨rfl, hb2⟩
        have H2 : Hid (Bx1 w w2 ⟨n, k, x2, x3, x4⟩) := H1.out.below hb2.out
        have HS2 : Hid (Sn rAAr w2 ao L) := HS1.out.below hb2.out
        clear c0 c1 c2 c3 c4 hb2 H1 HS1 q1
        obtain ⟨c0, c1, c2, c3, c4⟩ := AAr.laid (d := ⟨n, k, x2, x3, x4⟩) (H2.out.2.1)
        simp only at c0 c1 c2 c3 c4
        go_wp2_with fail
        refine (q2 w2 ao c HS2.out HM.out).mono ?_
        rintro e w3 ⟨rfl, hb3⟩
        have H3 : Hid (Bx1 w w3 ⟨n, k, x2, x3, x4⟩) := H2.out.below hb3.out
        have HS3 : Hid (Sn rAAr w3 ao L) := HS2.out.below hb3.out
        clear c0 c1 c2 c3 c4 hb3 H2 HS2 q2
        obtain ⟨c0, c1, c2, c3, c4⟩ := AAr.laid (d := ⟨n, k, x2, x3, x4⟩) (H3.out.2.1)
        simp only at c0 c1 c2 c3 c4
        go_wp2_with fail
        refine (hY w3 ao c HS3.out HM.out).mono ?_
        rintro e w4 ⟨rfl, hb4⟩
        have H4 : Hid (Bx1 w w4 ⟨n, k, x2, x3, x4⟩) := H3.out.below hb4
        have HS4 : Hid (Sn rAAr w4 ao L) := HS3.out.below hb4
        have hO := of_any (c := c) HS4.out HMS.out.1
        clear c0 c1 c2 c3 c4 hb4 H3 HS3 hY
        obtain ⟨c0, c1, c2, c3, c4⟩ := AAr.laid (d := ⟨n, k, x2, x3, x4⟩) (H4.out.2.1)
        simp only at c0 c1 c2 c3 c4
        go_wp2_with (go_at_call 22; refine (hSp _).mono ?_; rintro e w9 ⟨rfl, hw⟩; obtain rfl := hw.symm; clear hw)
        clear hSp
        refine hO.mono ?_
        rintro e w5 ⟨rfl, P5, hb5⟩
        have HB5 : Hid (Below w4.heap.size w4 w5) := hb5
        have HP5 : Hid (Row rAPg w4.heap.size w5 (.slice (some ⟨w4.heap.size, 0, none⟩) 4096 4096) (pagesA (ownA L))) := P5
        have hO2 := of_any (c := c) (HS4.out.below hb5) HMS.out.1
        clear hO P5 hb5 c0 c1 c2 c3 c4
        go_wp2_with fail
        refine hO2.mono ?_
        rintro e w6 ⟨rfl, P6, hb6⟩
        obtain ⟨g1, hg1⟩ : ∃ g1, w4.heap.size = g1 := ⟨_, rfl⟩
        obtain ⟨g2, hg2⟩ : ∃ g2, w5.heap.size = g2 := ⟨_, rfl⟩
        have hg12 : g1 < g2 := by
          have := (HP5.out.lt w4.heap.size rfl).2
          omega
        have HG1 : Hid (w4.heap.size = g1) := hg1
        have HB6 : Hid (Below w4.heap.size w4 w6) := below_call' HB5.out hb6
        have HP : Row rAPg g1 w6 (.slice (some ⟨g1, 0, none⟩) 4096 4096) (pagesA (ownA L)) := by
          rw [← hg1]
          exact HP5.out.below hb6
        have HQ : Hid (Row rAPg g2 w6 (.slice (some ⟨g2, 0, none⟩) 4096 4096) (pagesA (ownA L))) := by
          rw [← hg2]
          exact P6
        rw [hg1, hg2]
        have h1 := rchange_any HP n k (Nat.le_of_lt hnk) hk4 true x2 x3 false
        have H6 := H4.out.below HB6.out
        obtain ⟨c0, c1, c2, c3, c4⟩ := AAr.laid (d := ⟨n, k, x2, x3, x4⟩) (H6.2.1)
        simp only at c0 c1 c2 c3 c4
        clear hO2 P6 hb6 hg1 hg2 HP5 HB5 H6 HS4 HP
        go_wp2_with fail
        refine h1.mono ?_
        rintro e w7 h7
        obtain ⟨e1, HP7, K7⟩ := h7.no HCV.out
        subst e1
        have HQ7 := K7.row HQ.out fun g hg e => by cases hg; exact absurd (show g2 = g1 from e) (by omega)
        have HB7 : Hid (Below w4.heap.size w4 w7) := HB6.out.trans (K7.below HB6.out.size fun c _ e => by rw [e, ← HG1.out]; exact Nat.le_refl _)
        have h2 := rchange_any HQ7 n k (Nat.le_of_lt hnk) hk4 false x2 x3 x4
        have H7 := H4.out.below HB7.out
        clear c0 c1 c2 c3 c4 h1 h7 HP7 K7 HQ7 HQ HB6
        obtain ⟨c0, c1, c2, c3, c4⟩ := AAr.laid (d := ⟨n, k, x2, x3, x4⟩) (H7.2.1)
        simp only at c0 c1 c2 c3 c4
        go_wp2_with fail
        refine h2.mono ?_
        rintro e w8 h8
        obtain ⟨e1, HQ8, K8⟩ := h8.no HCV.out
        subst e1
        have HB8 : Hid (Below w4.heap.size w4 w8) := HB7.out.trans (K8.below HB7.out.size fun c _ e => by rw [e]; have := HG1.out; omega)
        have H8' : Hid (Below w.heap.size w w8) := below_call' H4.out.1 HB8.out
        clear c0 c1 c2 c3 c4 H7 h2 h8 HQ8 K8 HB7
        go_wp2
        go_ret
        exact ⟨rfl, H8'.out⟩
    · obtain rfl := s1.no hMS
      obtain rfl := s2.no hMS
      have HMS : Hid (¬ (MayA L ∧ SpanA a b)) := hMS
      have hY := fun h => may_yes (L := L) h
      have hN := fun h => may_no (L := L) h
      clear s1 s2 z1 z2 hMS
      go_enter Try.func6, Try.ntmps6
      go_wp2_with fail
      refine hU.mono ?_
      rintro e w1 ⟨rfl, hb1⟩
      have H1 : Hid (Bx1 w w1 ⟨a, b, x2, x3, x4⟩) := H0.out.below hb1
      have HS1 : Hid (Sn rAAr w1 ao L) := HS.out.below H1.out.1
      clear hU hb1 H0 HS
      obtain ⟨c0, c1, c2, c3, c4⟩ := AAr.laid (d := ⟨a, b, x2, x3, x4⟩) (H1.out.2.1)
      simp only at c0 c1 c2 c3 c4
      go_wp2_with fail
      refine (q1 w1 ao c HS1.out HM.out).mono ?_
      rintro e w2 ⟨rfl, hb2⟩
      have H2 : Hid (Bx1 w w2 ⟨a, b, x2, x3, x4⟩) := H1.out.below hb2.out
      have HS2 : Hid (Sn rAAr w2 ao L) := HS1.out.below hb2.out
      clear c0 c1 c2 c3 c4 hb2 H1 HS1 q1
      obtain ⟨c0, c1, c2, c3, c4⟩ := AAr.laid (d := ⟨a, b, x2, x3, x4⟩) (H2.out.2.1)
      simp only at c0 c1 c2 c3 c4
      go_wp2_with fail
      refine (q2 w2 ao c HS2.out HM.out).mono ?_
      rintro e w3 ⟨rfl, hb3⟩
      have H3 : Hid (Bx1 w w3 ⟨a, b, x2, x3, x4⟩) := H2.out.below hb3.out
      have HS3 : Hid (Sn rAAr w3 ao L) := HS2.out.below hb3.out
      clear c0 c1 c2 c3 c4 hb3 H2 HS2 q2
      obtain ⟨c0, c1, c2, c3, c4⟩ := AAr.laid (d := ⟨a, b, x2, x3, x4⟩) (H3.out.2.1)
      simp only at c0 c1 c2 c3 c4
      by_cases hMy : MayA L
      · have hsf : spanB a b = false := by
          cases hq : spanB a b with
          | false => rfl
          | true => exact absurd ⟨hMy, HSP.out.1 hq⟩ HMS.out
        rw [hsf] at hSp
        have hy := hY hMy w3 ao c HS3.out HM.out
        clear hY hN hsf HSP hMy
        go_wp2_with fail
        refine hy.mono ?_
        rintro e w4 ⟨rfl, hb4⟩
        have H4 : Hid (Bx1 w w4 ⟨a, b, x2, x3, x4⟩) := H3.out.below hb4
        clear c0 c1 c2 c3 c4 hb4 H3 HS3 hy
        obtain ⟨c0, c1, c2, c3, c4⟩ := AAr.laid (d := ⟨a, b, x2, x3, x4⟩) (H4.out.2.1)
        simp only at c0 c1 c2 c3 c4
        go_wp2_with (go_at_call 22; refine (hSp _).mono ?_; rintro e w9 ⟨rfl, hw⟩; obtain rfl := hw.symm; clear hw)
        go_ret
        exact ⟨rfl, H4.out.1⟩
      · have hy := hN hMy w3 ao c HS3.out HM.out
        clear hY hN HSP hMy hSp
        go_wp2_with fail
        refine hy.mono ?_
        rintro e w4 ⟨rfl, hb4⟩
        have H4 : Hid (Bx1 w w4 ⟨a, b, x2, x3, x4⟩) := H3.out.below hb4
        clear c0 c1 c2 c3 c4 hb4 H3 HS3 hy
        go_wp2
        go_ret
        exact ⟨rfl, H4.out.1⟩
  · have h200z : (200 : Int) < (L.length : Int) := by omega
    clear q1 q2 s1 s2 z1 z2 hSp HSP he
    go_enter Try.func6, Try.ntmps6
    go_wp2_with fail
    refine hU.mono ?_
    rintro e w1 ⟨rfl, hb1⟩
    have H1 : Hid (Bx1 w w1 ⟨a, b, x2, x3, x4⟩) := H0.out.below hb1
    clear hU hb1 H0
    go_wp2
    go_ret
    exact ⟨rfl, H1.out.1⟩
theorem walk_areaChanges (ao : Option Addr) (len cap : Nat) (D : Nat → AAr) (d : AAr) (w : World) (hm : len ≤ maxLen) (hL : Lst AAr.cells AAr.ok 5 w ao len D) (_ : d.ok) :
    Calls Try.prog 6 #[.slice ao len cap, .agg d.cells.toArray] w fun e w' => e = .returned (.bool true) ∧ Below w.heap.size w w' := by
  have h := changes_any (c := cap) hL.sn (by rw [lstN]; exact hm) d
  rwa [lstN] at h
end Go.Proofs.Ytaeodbeodacmaaa
