/- AreaLays, walked. -/
import Derived.Test.YtaeodbeodacmaaaARgb
namespace Go.Proofs.Ytaeodbeodacmaaa
open Go.RowKit

set_option maxRecDepth 100000 in
set_option maxHeartbeats 16000000 in
theorem lays_any {w : World} {ao : Option Addr} {c : Nat} {L : List AAr} (hs : Sn rAAr w ao L) (hm : L.length ≤ maxLen) (dd : AAr) :
    Calls Try.prog 5 #[.slice ao L.length c, av dd] w fun e w' => e = .returned (.bool true) ∧ Below w.heap.size w w' := by
  obtain ⟨r1, s1, q1⟩ := lay_tell L dd
  obtain ⟨r2, s2, q2⟩ := cut_tell L dd.a dd.b
  have z1 := fun h w ao c => lay_sure (L := L) (d := dd) h w ao c
  have z2 := fun h w ao c => cut_sure (L := L) (a := dd.a) (b := dd.b) h w ao c
  have H0 : Hid (Bx1 w (w.alloc (.cells dd.arr 32)) dd) := Bx1.new w dd
  have hU := up_any (w.alloc (.cells dd.arr 32))
  have HS : Hid (Sn rAAr w ao L) := hs
  have HM : Hid (L.length ≤ maxLen) := hm
  have hm' : L.length ≤ 9223372036854775807 := by unfold maxLen at hm; omega
  have he := eq_code 1 1
  rw [beq_self_eq_true] at he
  have hSp := fun w => rspan_any dd.a dd.b w
  have HSP : Hid (spanB dd.a dd.b = true ↔ SpanA dd.a dd.b) := spanB_iff _ _
  clear hs hm
  obtain ⟨a, b, x2, x3, x4⟩ := dd
  unfold AAr.arr at H0 hU
  unfold av at *
  simp only [AAr.pg] at *
  by_cases h200 : L.length ≤ 200
  · have h200z : ¬ (200 : Int) < (L.length : Int) := by omega
    by_cases hMS : MayA L ∧ SpanA a b
    · have hSp' : spanB a b = true := HSP.out.2 hMS.2
      rw [hSp'] at hSp
      have hk1 := z1 hMS
      have hk2 := z2 hMS
      have HMS : Hid (MayA L ∧ SpanA a b) := hMS
      have hY := may_yes hMS.1
      obtain ⟨n, rfl⟩ : ∃ n : Nat, a = n := ⟨a.toNat, by have := hMS.2.1; omega⟩
      obtain ⟨k, rfl⟩ : ∃ k : Nat, b = k := ⟨b.toNat, by have := hMS.2.1; have := hMS.2.2.1; omega⟩
      have hnk : n < k := by have := hMS.2.2.1; omega
      have hk4 : k ≤ 4096 := by have := hMS.2.2.2; omega
      clear q1 q2 s1 s2 z1 z2 hMS HSP hSp' he
      go_enter Try.func5, Try.ntmps5
      go_wp2_with fail
      refine hU.mono ?_
      rintro e w1 ⟨rfl, hb1⟩
      have H1 : Hid (Bx1 w w1 ⟨n, k, x2, x3, x4⟩) := H0.out.below hb1
      have HS1 : Hid (Sn rAAr w1 ao L) := HS.out.below H1.out.1
      clear hU hb1 H0 HS
      obtain ⟨c0, c1, c2, c3, c4⟩ := AAr.laid (d := ⟨n, k, x2, x3, x4⟩) (H1.out.2.1)
      simp only at c0 c1 c2 c3 c4
      go_wp2_with fail
      refine (hk1 w1 ao c HS1.out HM.out).mono ?_
      rintro e w2 ⟨v1, u1, rfl, G1, hb2⟩
      have H2 : Hid (Bx1 w w2 ⟨n, k, x2, x3, x4⟩) := H1.out.below hb2.out
      have HS2 : Hid (Sn rAAr w2 ao L) := HS1.out.below hb2.out
      clear c0 c1 c2 c3 c4 hb2 H1 HS1 hk1
      obtain ⟨c0, c1, c2, c3, c4⟩ := AAr.laid (d := ⟨n, k, x2, x3, x4⟩) (H2.out.2.1)
      simp only at c0 c1 c2 c3 c4
      go_wp2_with fail
      refine (hk2 w2 ao c HS2.out HM.out).mono ?_
      rintro e w3 ⟨v2, u2, rfl, G2, hb3⟩
      have H3 : Hid (Bx1 w w3 ⟨n, k, x2, x3, x4⟩) := H2.out.below hb3.out
      have HS3 : Hid (Sn rAAr w3 ao L) := HS2.out.below hb3.out
      have G1' : Hid (RgtA w3 (layM L n k [⟨n, k, x2, x3, x4⟩]) v1 u1) := G1.out.below hb3.out
      clear c0 c1 c2 c3 c4 hb3 H2 HS2 hk2 G1
      obtain ⟨c0, c1, c2, c3, c4⟩ := AAr.laid (d := ⟨n, k, x2, x3, x4⟩) (H3.out.2.1)
      simp only at c0 c1 c2 c3 c4
      go_wp2_with fail
      refine (hY w3 ao c HS3.out HM.out).mono ?_
      rintro e w4 ⟨rfl, hb4⟩
      have H4 : Hid (Bx1 w w4 ⟨n, k, x2, x3, x4⟩) := H3.out.below hb4
      have HS4 : Hid (Sn rAAr w4 ao L) := HS3.out.below hb4
      have G1 : Hid (RgtA w4 (layM L n k [⟨n, k, x2, x3, x4⟩]) v1 u1) := G1'.out.below hb4
      have G2' : Hid (RgtA w4 (layM L n k []) v2 u2) := G2.out.below hb4
      have hO := of_any (c := c) HS4.out HMS.out.1
      clear c0 c1 c2 c3 c4 hb4 H3 HS3 hY G1' G2
      obtain ⟨c0, c1, c2, c3, c4⟩ := AAr.laid (d := ⟨n, k, x2, x3, x4⟩) (H4.out.2.1)
      simp only at c0 c1 c2 c3 c4
      go_wp2_with (go_at_call 22; refine (hSp _).mono ?_; rintro e w9 ⟨rfl, hw⟩; obtain rfl := hw.symm; clear hw)
      clear hSp
      refine hO.mono ?_
      rintro e w5 ⟨rfl, P5, hb5⟩
      have HB5 : Hid (Below w4.heap.size w4 w5) := hb5
      have HP5 : Hid (Row rAPg w4.heap.size w5 (.slice (some ⟨w4.heap.size, 0, none⟩) 4096 4096) (pagesA (ownA L))) := P5
      have hO2 := of_any (c := c) (HS4.out.below hb5) HMS.out.1
      clear hO P5 hb5 c0 c1 c2 c3 c4
      go_wp2_with fail
      refine hO2.mono ?_
      rintro e w6 ⟨rfl, P6, hb6⟩
      obtain ⟨g1, hg1⟩ : ∃ g1, w4.heap.size = g1 := ⟨_, rfl⟩
      obtain ⟨g2, hg2⟩ : ∃ g2, w5.heap.size = g2 := ⟨_, rfl⟩
      have hg12 : g1 < g2 := by
        have := (HP5.out.lt w4.heap.size rfl).2
        omega
      have HG1 : Hid (w4.heap.size = g1) := hg1
      have HB6 : Hid (Below w4.heap.size w4 w6) := below_call' HB5.out hb6
      have HP : Hid (Row rAPg g1 w6 (.slice (some ⟨g1, 0, none⟩) 4096 4096) (pagesA (layA (ownA L) n n (some (x2, x3, x4))))) := by
        rw [lay_none, ← hg1]
        exact HP5.out.below hb6
      have HQ : Hid (Row rAPg g2 w6 (.slice (some ⟨g2, 0, none⟩) 4096 4096) (pagesA (layA (ownA L) n n none))) := by
        rw [lay_none, ← hg2]
        exact P6
      rw [hg1, hg2]
      have H6 := H4.out.below HB6.out
      obtain ⟨c0, c1, c2, c3, c4⟩ := AAr.laid (d := ⟨n, k, x2, x3, x4⟩) (H6.2.1)
      simp only at c0 c1 c2 c3 c4
      clear hO2 P6 hb6 hg1 hg2 HP5 HB5 H6 HS4
      go_wp2
      go_loopw [12] (fun iv W => ∃ i : Nat, n ≤ i ∧ i ≤ k ∧ iv = .int .i64 i ∧ Hid (Row rAPg g1 W (.slice (some ⟨g1, 0, none⟩) 4096 4096) (pagesA (layA (ownA L) n i (some (x2, x3, x4))))) ∧ Hid (Row rAPg g2 W (.slice (some ⟨g2, 0, none⟩) 4096 4096) (pagesA (layA (ownA L) n i none))) ∧ Hid (Below w4.heap.size w4 W)) (fun iv _ => k - (intOf iv).toNat)
      case atStart => exact ⟨n, Nat.le_refl _, Nat.le_of_lt hnk, rfl, HP, HQ, HB6⟩
      case round =>
        obtain ⟨i, hi1, hi2, rfl, HPi, HQi, HBi⟩ := hrel
        clear HP HQ HB6 c0 c1 c2 c3 c4
        have Hi := H4.out.below HBi.out
        obtain ⟨c0, c1, c2, c3, c4⟩ := AAr.laid (d := ⟨n, k, x2, x3, x4⟩) (Hi.2.1)
        simp only at c0 c1 c2 c3 c4
        by_cases hik : i < k
        · have hikz : (i : Int) < (k : Int) := by omega
          have hi4 : (i : Int) < 4096 := by omega
          have hl1 : i < (pagesA (layA (ownA L) n i (some (x2, x3, x4)))).length := by rw [pages_len]; omega
          have hl2 : i < (pagesA (layA (ownA L) n i none)).length := by rw [pages_len]; omega
          obtain ⟨g', e', -, -, hgw1, -, -, hat1⟩ := HPi.out.at hl1
          cases e'
          obtain ⟨g', e', -, -, hgw2, -, -, hat2⟩ := HQi.out.at hl2
          cases e'
          obtain ⟨p0, p1, p2, p3⟩ := APg.at hat1
          obtain ⟨o0, o1, o2, o3⟩ := APg.at hat2
          simp only [show rAPg.n = 4 from rfl] at p0 p1 p2 p3 o0 o1 o2 o3
          have hf1 := fun o => HPi.out.frozen o
          have hf2 := fun o => HQi.out.frozen o
          have hne : g1 ≠ g2 := by omega
          have hne2 : g2 ≠ g1 := by omega
          have hbx : w.heap.size ≠ g1 := by have := H4.out.2.1.lt; have := HG1.out; omega
          have hbx2 : g1 ≠ w.heap.size := fun e => hbx e.symm
          have HNP : Hid (Row rAPg g1 ((wr.setCells g1 (i * 4) [.bool true, .bool x2, .bool x3, .bool x4]).setCells g2 (i * 4) [.bool false, .bool false, .bool false, .bool false]) (.slice (some ⟨g1, 0, none⟩) 4096 4096) (pagesA (layA (ownA L) n ((i + 1 : Nat) : Int) (some (x2, x3, x4))))) := by
            rw [lay_step _ _ hi1]
            have h := HPi.out.put i (pgA (some (x2, x3, x4))) hl1
            exact (Keeps.sets [.bool false, .bool false, .bool false, .bool false] _ g2 (i * 4)).row h fun g hg e => by cases hg; exact hne e
          have HNQ : Hid (Row rAPg g2 ((wr.setCells g1 (i * 4) [.bool true, .bool x2, .bool x3, .bool x4]).setCells g2 (i * 4) [.bool false, .bool false, .bool false, .bool false]) (.slice (some ⟨g2, 0, none⟩) 4096 4096) (pagesA (layA (ownA L) n ((i + 1 : Nat) : Int) none))) := by
            rw [lay_step _ _ hi1]
            have h := (Keeps.sets [.bool true, .bool x2, .bool x3, .bool x4] wr g1 (i * 4)).row HQi.out fun g hg e => by cases hg; exact hne2 e
            exact h.put i (pgA none) hl2
          have HNB : Hid (Below w4.heap.size w4 ((wr.setCells g1 (i * 4) [.bool true, .bool x2, .bool x3, .bool x4]).setCells g2 (i * 4) [.bool false, .bool false, .bool false, .bool false])) := by
            have h1 := HBi.out.trans ((Keeps.sets [.bool true, .bool x2, .bool x3, .bool x4] wr g1 (i * 4)).below HBi.out.size fun c _ e => by rw [e, ← HG1.out]; exact Nat.le_refl _)
            exact h1.trans ((Keeps.sets [.bool false, .bool false, .bool false, .bool false] _ g2 (i * 4)).below h1.size fun c _ e => by rw [e]; have := HG1.out; omega)
          clear hat1 hat2 HPi HQi HBi Hi hl1 hl2
          go_wp2
          go_roundw
          case rel => exact ⟨i + 1, by omega, by omega, by go_num, HNP, HNQ, HNB⟩
          case measure => simp only [intOf]; omega
        · obtain rfl : i = k := by omega
          have hr1 := right_of (c := 4096) (G1.out.below HBi.out) (can_lay (d := ⟨n, i, x2, x3, x4⟩) HMS.out.1.2 HMS.out.2.1 HMS.out.2.2.1 HMS.out.2.2.2) HPi.out.sn
          have HQS : Hid (Sn rAPg wr (some ⟨g2, 0, none⟩) (pagesA (layA (ownA L) n i none))) := HQi.out.sn
          have G2w : Hid (RgtA wr (layM L n i []) v2 u2) := G2'.out.below HBi.out
          clear HPi HQi G1 G2'
          go_wp2_with fail
          refine hr1.mono ?_
          rintro e w8 ⟨rfl, hb8⟩
          have H8 : Hid (Below w.heap.size w w8) := below_call' Hi.1 hb8
          have hr2 := right_of (c := 4096) (G2w.out.below hb8) (can_cut HMS.out.1.2 HMS.out.2.1 HMS.out.2.2.1) (HQS.out.below hb8)
          clear hr1 hb8 c0 c1 c2 c3 c4 Hi HBi HQS G2w
          go_wp2_with fail
          refine hr2.mono ?_
          rintro e w9 ⟨rfl, hb9⟩
          have H9 : Hid (Below w.heap.size w w9) := below_call' H8.out hb9
          clear hr2 hb9
          go_wp2
          go_ret
          exact ⟨rfl, H9.out⟩
    · obtain rfl := s1.no hMS
      obtain rfl := s2.no hMS
      have HMS : Hid (¬ (MayA L ∧ SpanA a b)) := hMS
      have hY := fun h => may_yes (L := L) h
      have hN := fun h => may_no (L := L) h
      clear s1 s2 z1 z2 hMS
      go_enter Try.func5, Try.ntmps5
      go_wp2_with fail
      refine hU.mono ?_
      rintro e w1 ⟨rfl, hb1⟩
      have H1 : Hid (Bx1 w w1 ⟨a, b, x2, x3, x4⟩) := H0.out.below hb1
      have HS1 : Hid (Sn rAAr w1 ao L) := HS.out.below H1.out.1
      clear hU hb1 H0 HS
      obtain ⟨c0, c1, c2, c3, c4⟩ := AAr.laid (d := ⟨a, b, x2, x3, x4⟩) (H1.out.2.1)
      simp only at c0 c1 c2 c3 c4
      go_wp2_with fail
      refine (q1 w1 ao c HS1.out HM.out).mono ?_
      rintro e w2 ⟨rfl, hb2⟩
      have H2 : Hid (Bx1 w w2 ⟨a, b, x2, x3, x4⟩) := H1.out.below hb2.out
      have HS2 : Hid (Sn rAAr w2 ao L) := HS1.out.below hb2.out
      clear c0 c1 c2 c3 c4 hb2 H1 HS1 q1
      obtain ⟨c0, c1, c2, c3, c4⟩ := AAr.laid (d := ⟨a, b, x2, x3, x4⟩) (H2.out.2.1)
      simp only at c0 c1 c2 c3 c4
      go_wp2_with fail
      refine (q2 w2 ao c HS2.out HM.out).mono ?_
      rintro e w3 ⟨rfl, hb3⟩
      have H3 : Hid (Bx1 w w3 ⟨a, b, x2, x3, x4⟩) := H2.out.below hb3.out
      have HS3 : Hid (Sn rAAr w3 ao L) := HS2.out.below hb3.out
      clear c0 c1 c2 c3 c4 hb3 H2 HS2 q2
      obtain ⟨c0, c1, c2, c3, c4⟩ := AAr.laid (d := ⟨a, b, x2, x3, x4⟩) (H3.out.2.1)
      simp only at c0 c1 c2 c3 c4
      by_cases hMy : MayA L
      · have hsf : spanB a b = false := by
          cases hq : spanB a b with
          | false => rfl
          | true => exact absurd ⟨hMy, HSP.out.1 hq⟩ HMS.out
        rw [hsf] at hSp
        have hy := hY hMy w3 ao c HS3.out HM.out
        clear hY hN hsf HSP hMy
        go_wp2_with fail
        refine hy.mono ?_
        rintro e w4 ⟨rfl, hb4⟩
        have H4 : Hid (Bx1 w w4 ⟨a, b, x2, x3, x4⟩) := H3.out.below hb4
        clear c0 c1 c2 c3 c4 hb4 H3 HS3 hy
        obtain ⟨c0, c1, c2, c3, c4⟩ := AAr.laid (d := ⟨a, b, x2, x3, x4⟩) (H4.out.2.1)
        simp only at c0 c1 c2 c3 c4
        go_wp2_with (go_at_call 22; refine (hSp _).mono ?_; rintro e w9 ⟨rfl, hw⟩; obtain rfl := hw.symm; clear hw)
        go_ret
        exact ⟨rfl, H4.out.1⟩
      · have hy := hN hMy w3 ao c HS3.out HM.out
        clear hY hN HSP hMy hSp
        go_wp2_with fail
        refine hy.mono ?_
        rintro e w4 ⟨rfl, hb4⟩
        have H4 : Hid (Bx1 w w4 ⟨a, b, x2, x3, x4⟩) := H3.out.below hb4
        clear c0 c1 c2 c3 c4 hb4 H3 HS3 hy
        go_wp2
        go_ret
        exact ⟨rfl, H4.out.1⟩
  · have h200z : (200 : Int) < (L.length : Int) := by omega
    clear q1 q2 s1 s2 z1 z2 hSp HSP he
    go_enter Try.func5, Try.ntmps5
    go_wp2_with fail
    refine hU.mono ?_
    rintro e w1 ⟨rfl, hb1⟩
    have H1 : Hid (Bx1 w w1 ⟨a, b, x2, x3, x4⟩) := H0.out.below hb1
    clear hU hb1 H0
    go_wp2
    go_ret
    exact ⟨rfl, H1.out.1⟩
theorem walk_areaLays (ao : Option Addr) (len cap : Nat) (D : Nat → AAr) (d : AAr) (w : World) (hm : len ≤ maxLen) (hL : Lst AAr.cells AAr.ok 5 w ao len D) (_ : d.ok) :
    Calls Try.prog 5 #[.slice ao len cap, .agg d.cells.toArray] w fun e w' => e = .returned (.bool true) ∧ Below w.heap.size w w' := by
  have h := lays_any (c := cap) hL.sn (by rw [lstN]; exact hm) d
  rwa [lstN] at h
end Go.Proofs.Ytaeodbeodacmaaa
