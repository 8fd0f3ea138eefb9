/- AreaOrder, walked (printed by tools/gen/gen_area9.py). -/
import Derived.Test.YtaeodbeodacmaaaABox
namespace Go.Proofs.Ytaeodbeodacmaaa
open Go.RowKit

set_option maxRecDepth 100000 in
set_option maxHeartbeats 16000000 in
theorem order_any {w : World} {ao : Option Addr} {c : Nat} {L : List AAr} (hs : Sn rAAr w ao L) (hm : L.length ≤ maxLen) (dd ee : AAr) :
    Calls Try.prog 8 #[.slice ao L.length c, av dd, av ee] w fun e w' => e = .returned (.bool true) ∧ Below w.heap.size w w' := by
  obtain ⟨r1, s1, q1⟩ := lay_tell L dd
  obtain ⟨r2, s2, q2⟩ := lay_tell L ee
  have H0 : Hid (Bx2 w ((w.alloc (.cells dd.arr 32)).alloc (.cells ee.arr 32)) dd ee) := Bx2.new w dd ee
  have hU := up_any ((w.alloc (.cells dd.arr 32)).alloc (.cells ee.arr 32))
  have HS : Hid (Sn rAAr w ao L) := hs
  have HM : Hid (L.length ≤ maxLen) := hm
  have hm' : L.length ≤ 9223372036854775807 := by unfold maxLen at hm; omega
  have p1 : ∀ M : List AAr, ∃ r, LayS M dd.a dd.b (layA (ownA M) dd.a dd.b (some dd.pg)) r ∧ ∀ w ao c, Sn rAAr w ao M → M.length ≤ maxLen → Calls Try.prog 20 #[.slice ao M.length c, av dd] w (TellW w r) := fun M => lay_tell M dd
  have p2 : ∀ M : List AAr, ∃ r, LayS M ee.a ee.b (layA (ownA M) ee.a ee.b (some ee.pg)) r ∧ ∀ w ao c, Sn rAAr w ao M → M.length ≤ maxLen → Calls Try.prog 20 #[.slice ao M.length c, av ee] w (TellW w r) := fun M => lay_tell M ee
  clear hs hm
  obtain ⟨a, b, x2, x3, x4⟩ := dd
  obtain ⟨a', b', y2, y3, y4⟩ := ee
  unfold AAr.arr at H0 hU
  unfold av at *
  simp only [AAr.pg] at *
  by_cases h200 : L.length ≤ 200
  · have h200z : decide ((200 : Int) < (L.length : Int)) = false := decide_eq_false (by omega)
    by_cases t1 : a < b'
    · by_cases t2 : a' < b
      · clear q1 q2 p1 p2 s1 s2
        go_enter Try.func8, Try.ntmps8
        go_wp2_with fail
        refine hU.mono ?_
        rintro e w1 ⟨rfl, hb1⟩
        have H1 : Hid (Bx2 w w1 ⟨a, b, x2, x3, x4⟩ ⟨a', b', y2, y3, y4⟩) := H0.out.below hb1
        have HS_1 : Hid (Sn rAAr w1 ao L) := HS.out.below H1.out.1
        clear hU hb1 H0 HS
        obtain ⟨c0, c1, c2, c3, c4⟩ := AAr.laid (d := ⟨a, b, x2, x3, x4⟩) (H1.out.2.1)
        simp only at c0 c1 c2 c3 c4
        obtain ⟨d0, d1, d2, d3, d4⟩ := AAr.laid (d := ⟨a', b', y2, y3, y4⟩) (H1.out.2.2)
        simp only at d0 d1 d2 d3 d4
        go_wp2
        go_ret
        exact ⟨rfl, H1.out.1⟩
      · have HNN : Hid (¬ (a < b' ∧ a' < b)) := fun h => t2 h.2
        go_enter Try.func8, Try.ntmps8
        go_wp2_with fail
        refine hU.mono ?_
        rintro e w1 ⟨rfl, hb1⟩
        have H1 : Hid (Bx2 w w1 ⟨a, b, x2, x3, x4⟩ ⟨a', b', y2, y3, y4⟩) := H0.out.below hb1
        have HS_1 : Hid (Sn rAAr w1 ao L) := HS.out.below H1.out.1
        clear hU hb1 H0 HS
        cases r1 with
        | ok M1 =>
          have S1S : Hid (LayS L a b (layA (ownA L) a b (some (x2, x3, x4))) (.ok M1)) := s1
          have HL1 : Hid (M1.length ≤ 64) := s1.sure.2.2.2
          clear s1
          cases r2 with
          | ok M2 =>
            have S2S : Hid (LayS L a' b' (layA (ownA L) a' b' (some (y2, y3, y4))) (.ok M2)) := s2
            have HL2 : Hid (M2.length ≤ 64) := s2.sure.2.2.2
            clear s2
            as_aux_lemma =>
            obtain ⟨c0, c1, c2, c3, c4⟩ := AAr.laid (d := ⟨a, b, x2, x3, x4⟩) (H1.out.2.1)
            simp only at c0 c1 c2 c3 c4
            obtain ⟨d0, d1, d2, d3, d4⟩ := AAr.laid (d := ⟨a', b', y2, y3, y4⟩) (H1.out.2.2)
            simp only at d0 d1 d2 d3 d4
            go_wp2_with fail
            refine (q1 w1 _ c HS_1.out HM.out).mono ?_
            rintro e w2 ⟨ao1, k1, rfl, hr1, hb1⟩
            clear c0 c1 c2 c3 c4 d0 d1 d2 d3 d4
            have H2 : Hid (Bx2 w w2 ⟨a, b, x2, x3, x4⟩ ⟨a', b', y2, y3, y4⟩) := H1.out.below hb1.out
            have HS_2 : Hid (Sn rAAr w2 ao L) := HS_1.out.below hb1.out
            have S1_2 : Hid (Sn rAAr w2 ao1 M1) := hr1.out.sn
            clear H1 HS_1 hr1 hb1
            clear q1
            obtain ⟨c0, c1, c2, c3, c4⟩ := AAr.laid (d := ⟨a, b, x2, x3, x4⟩) (H2.out.2.1)
            simp only at c0 c1 c2 c3 c4
            obtain ⟨d0, d1, d2, d3, d4⟩ := AAr.laid (d := ⟨a', b', y2, y3, y4⟩) (H2.out.2.2)
            simp only at d0 d1 d2 d3 d4
            go_wp2_with fail
            refine (q2 w2 _ c HS_2.out HM.out).mono ?_
            rintro e w3 ⟨ao2, k2, rfl, hr2, hb2⟩
            clear c0 c1 c2 c3 c4 d0 d1 d2 d3 d4
            have H3 : Hid (Bx2 w w3 ⟨a, b, x2, x3, x4⟩ ⟨a', b', y2, y3, y4⟩) := H2.out.below hb2.out
            have HS_3 : Hid (Sn rAAr w3 ao L) := HS_2.out.below hb2.out
            have S1_3 : Hid (Sn rAAr w3 ao1 M1) := S1_2.out.below hb2.out
            have S2_3 : Hid (Sn rAAr w3 ao2 M2) := hr2.out.sn
            clear H2 HS_2 S1_2 hr2 hb2
            clear q2
            obtain ⟨r3, s3, q3⟩ := p2 M1
            obtain ⟨r4, s4, q4⟩ := p1 M2
            obtain rfl := lay_order HNN.out S1S.out S2S.out s3 s4
            clear p1 p2 s4
            rcases s3.ok_or with ⟨M3, rfl, h3⟩ | rfl | rfl
            · have HL3 : Hid (M3.length ≤ 64) := h3
              clear h3
              clear s3
              obtain ⟨c0, c1, c2, c3, c4⟩ := AAr.laid (d := ⟨a, b, x2, x3, x4⟩) (H3.out.2.1)
              simp only at c0 c1 c2 c3 c4
              obtain ⟨d0, d1, d2, d3, d4⟩ := AAr.laid (d := ⟨a', b', y2, y3, y4⟩) (H3.out.2.2)
              simp only at d0 d1 d2 d3 d4
              go_wp2_with fail
              refine (q3 w3 _ k1 S1_3.out (by have := HL1.out; unfold maxLen; omega)).mono ?_
              rintro e w4 ⟨ao3, k3, rfl, hr3, hb3⟩
              clear c0 c1 c2 c3 c4 d0 d1 d2 d3 d4
              have H4 : Hid (Bx2 w w4 ⟨a, b, x2, x3, x4⟩ ⟨a', b', y2, y3, y4⟩) := H3.out.below hb3.out
              have HS_4 : Hid (Sn rAAr w4 ao L) := HS_3.out.below hb3.out
              have S1_4 : Hid (Sn rAAr w4 ao1 M1) := S1_3.out.below hb3.out
              have S2_4 : Hid (Sn rAAr w4 ao2 M2) := S2_3.out.below hb3.out
              have S3_4 : Hid (Sn rAAr w4 ao3 M3) := hr3.out.sn
              clear H3 HS_3 S1_3 S2_3 hr3 hb3
              clear q3
              obtain ⟨c0, c1, c2, c3, c4⟩ := AAr.laid (d := ⟨a, b, x2, x3, x4⟩) (H4.out.2.1)
              simp only at c0 c1 c2 c3 c4
              obtain ⟨d0, d1, d2, d3, d4⟩ := AAr.laid (d := ⟨a', b', y2, y3, y4⟩) (H4.out.2.2)
              simp only at d0 d1 d2 d3 d4
              go_wp2_with fail
              refine (q4 w4 _ k2 S2_4.out (by have := HL2.out; unfold maxLen; omega)).mono ?_
              rintro e w5 ⟨ao4, k4, rfl, hr4, hb4⟩
              clear c0 c1 c2 c3 c4 d0 d1 d2 d3 d4
              have H5 : Hid (Bx2 w w5 ⟨a, b, x2, x3, x4⟩ ⟨a', b', y2, y3, y4⟩) := H4.out.below hb4.out
              have HS_5 : Hid (Sn rAAr w5 ao L) := HS_4.out.below hb4.out
              have S1_5 : Hid (Sn rAAr w5 ao1 M1) := S1_4.out.below hb4.out
              have S2_5 : Hid (Sn rAAr w5 ao2 M2) := S2_4.out.below hb4.out
              have S3_5 : Hid (Sn rAAr w5 ao3 M3) := S3_4.out.below hb4.out
              have S4_5 : Hid (Sn rAAr w5 ao4 M3) := hr4.out.sn
              clear H4 HS_4 S1_4 S2_4 S3_4 hr4 hb4
              clear q4
              go_wp2_with fail
              refine (code_nil _).mono ?_
              rintro e w9 ⟨rfl, hw⟩
              obtain rfl := hw.symm
              clear hw
              go_wp2_with fail
              refine (code_nil _).mono ?_
              rintro e w9 ⟨rfl, hw⟩
              obtain rfl := hw.symm
              clear hw
              go_wp2_with fail
              refine (same_self (c1 := k3) (c2 := k4) S3_5.out S4_5.out (by have := HL3.out; unfold maxLen; omega)).mono ?_
              rintro e w9 ⟨rfl, hb9⟩
              have H9 : Hid (Below w.heap.size w w9) := below_call' H5.out.1 hb9
              clear hb9
              go_wp2
              go_ret
              exact ⟨rfl, H9.out⟩
            · clear s3
              obtain ⟨c0, c1, c2, c3, c4⟩ := AAr.laid (d := ⟨a, b, x2, x3, x4⟩) (H3.out.2.1)
              simp only at c0 c1 c2 c3 c4
              obtain ⟨d0, d1, d2, d3, d4⟩ := AAr.laid (d := ⟨a', b', y2, y3, y4⟩) (H3.out.2.2)
              simp only at d0 d1 d2 d3 d4
              go_wp2_with fail
              refine (q3 w3 _ k1 S1_3.out (by have := HL1.out; unfold maxLen; omega)).mono ?_
              rintro e w4 ⟨rfl, hb3⟩
              clear c0 c1 c2 c3 c4 d0 d1 d2 d3 d4
              have H4 : Hid (Bx2 w w4 ⟨a, b, x2, x3, x4⟩ ⟨a', b', y2, y3, y4⟩) := H3.out.below hb3.out
              have HS_4 : Hid (Sn rAAr w4 ao L) := HS_3.out.below hb3.out
              have S1_4 : Hid (Sn rAAr w4 ao1 M1) := S1_3.out.below hb3.out
              have S2_4 : Hid (Sn rAAr w4 ao2 M2) := S2_3.out.below hb3.out
              clear H3 HS_3 S1_3 S2_3 hb3
              clear q3
              obtain ⟨c0, c1, c2, c3, c4⟩ := AAr.laid (d := ⟨a, b, x2, x3, x4⟩) (H4.out.2.1)
              simp only at c0 c1 c2 c3 c4
              obtain ⟨d0, d1, d2, d3, d4⟩ := AAr.laid (d := ⟨a', b', y2, y3, y4⟩) (H4.out.2.2)
              simp only at d0 d1 d2 d3 d4
              go_wp2_with fail
              refine (q4 w4 _ k2 S2_4.out (by have := HL2.out; unfold maxLen; omega)).mono ?_
              rintro e w5 ⟨rfl, hb4⟩
              clear c0 c1 c2 c3 c4 d0 d1 d2 d3 d4
              have H5 : Hid (Bx2 w w5 ⟨a, b, x2, x3, x4⟩ ⟨a', b', y2, y3, y4⟩) := H4.out.below hb4.out
              have HS_5 : Hid (Sn rAAr w5 ao L) := HS_4.out.below hb4.out
              have S1_5 : Hid (Sn rAAr w5 ao1 M1) := S1_4.out.below hb4.out
              have S2_5 : Hid (Sn rAAr w5 ao2 M2) := S2_4.out.below hb4.out
              clear H4 HS_4 S1_4 S2_4 hb4
              clear q4
              go_wp2_with fail
              refine (code_any 1 _ (by decide) (by decide)).mono ?_
              rintro e w9 ⟨rfl, hw⟩
              obtain rfl := hw.symm
              clear hw
              go_wp2_with fail
              refine (code_any 1 _ (by decide) (by decide)).mono ?_
              rintro e w9 ⟨rfl, hw⟩
              obtain rfl := hw.symm
              clear hw
              go_wp2_with fail
              refine (same_self (L := []) (c1 := 0) (c2 := 0) (Sn.nil rAAr w5 none) (Sn.nil rAAr w5 none) (Nat.zero_le _)).mono ?_
              rintro e w9 ⟨rfl, hb9⟩
              have H9 : Hid (Below w.heap.size w w9) := below_call' H5.out.1 hb9
              clear hb9
              go_wp2
              go_ret
              exact ⟨rfl, H9.out⟩
            · clear s3
              obtain ⟨c0, c1, c2, c3, c4⟩ := AAr.laid (d := ⟨a, b, x2, x3, x4⟩) (H3.out.2.1)
              simp only at c0 c1 c2 c3 c4
              obtain ⟨d0, d1, d2, d3, d4⟩ := AAr.laid (d := ⟨a', b', y2, y3, y4⟩) (H3.out.2.2)
              simp only at d0 d1 d2 d3 d4
              go_wp2_with fail
              refine (q3 w3 _ k1 S1_3.out (by have := HL1.out; unfold maxLen; omega)).mono ?_
              rintro e w4 ⟨rfl, hb3⟩
              clear c0 c1 c2 c3 c4 d0 d1 d2 d3 d4
              have H4 : Hid (Bx2 w w4 ⟨a, b, x2, x3, x4⟩ ⟨a', b', y2, y3, y4⟩) := H3.out.below hb3.out
              have HS_4 : Hid (Sn rAAr w4 ao L) := HS_3.out.below hb3.out
              have S1_4 : Hid (Sn rAAr w4 ao1 M1) := S1_3.out.below hb3.out
              have S2_4 : Hid (Sn rAAr w4 ao2 M2) := S2_3.out.below hb3.out
              clear H3 HS_3 S1_3 S2_3 hb3
              clear q3
              obtain ⟨c0, c1, c2, c3, c4⟩ := AAr.laid (d := ⟨a, b, x2, x3, x4⟩) (H4.out.2.1)
              simp only at c0 c1 c2 c3 c4
              obtain ⟨d0, d1, d2, d3, d4⟩ := AAr.laid (d := ⟨a', b', y2, y3, y4⟩) (H4.out.2.2)
              simp only at d0 d1 d2 d3 d4
              go_wp2_with fail
              refine (q4 w4 _ k2 S2_4.out (by have := HL2.out; unfold maxLen; omega)).mono ?_
              rintro e w5 ⟨rfl, hb4⟩
              clear c0 c1 c2 c3 c4 d0 d1 d2 d3 d4
              have H5 : Hid (Bx2 w w5 ⟨a, b, x2, x3, x4⟩ ⟨a', b', y2, y3, y4⟩) := H4.out.below hb4.out
              have HS_5 : Hid (Sn rAAr w5 ao L) := HS_4.out.below hb4.out
              have S1_5 : Hid (Sn rAAr w5 ao1 M1) := S1_4.out.below hb4.out
              have S2_5 : Hid (Sn rAAr w5 ao2 M2) := S2_4.out.below hb4.out
              clear H4 HS_4 S1_4 S2_4 hb4
              clear q4
              go_wp2_with fail
              refine (code_any 5 _ (by decide) (by decide)).mono ?_
              rintro e w9 ⟨rfl, hw⟩
              obtain rfl := hw.symm
              clear hw
              go_wp2_with fail
              refine (code_any 5 _ (by decide) (by decide)).mono ?_
              rintro e w9 ⟨rfl, hw⟩
              obtain rfl := hw.symm
              clear hw
              go_wp2_with fail
              refine (same_self (L := []) (c1 := 0) (c2 := 0) (Sn.nil rAAr w5 none) (Sn.nil rAAr w5 none) (Nat.zero_le _)).mono ?_
              rintro e w9 ⟨rfl, hb9⟩
              have H9 : Hid (Below w.heap.size w w9) := below_call' H5.out.1 hb9
              clear hb9
              go_wp2
              go_ret
              exact ⟨rfl, H9.out⟩
          | error n2 =>
            clear s2
            as_aux_lemma =>
            obtain ⟨c0, c1, c2, c3, c4⟩ := AAr.laid (d := ⟨a, b, x2, x3, x4⟩) (H1.out.2.1)
            simp only at c0 c1 c2 c3 c4
            obtain ⟨d0, d1, d2, d3, d4⟩ := AAr.laid (d := ⟨a', b', y2, y3, y4⟩) (H1.out.2.2)
            simp only at d0 d1 d2 d3 d4
            go_wp2_with fail
            refine (q1 w1 _ c HS_1.out HM.out).mono ?_
            rintro e w2 ⟨ao1, k1, rfl, hr1, hb1⟩
            clear c0 c1 c2 c3 c4 d0 d1 d2 d3 d4
            have H2 : Hid (Bx2 w w2 ⟨a, b, x2, x3, x4⟩ ⟨a', b', y2, y3, y4⟩) := H1.out.below hb1.out
            have HS_2 : Hid (Sn rAAr w2 ao L) := HS_1.out.below hb1.out
            have S1_2 : Hid (Sn rAAr w2 ao1 M1) := hr1.out.sn
            clear H1 HS_1 hr1 hb1
            clear q1
            obtain ⟨c0, c1, c2, c3, c4⟩ := AAr.laid (d := ⟨a, b, x2, x3, x4⟩) (H2.out.2.1)
            simp only at c0 c1 c2 c3 c4
            obtain ⟨d0, d1, d2, d3, d4⟩ := AAr.laid (d := ⟨a', b', y2, y3, y4⟩) (H2.out.2.2)
            simp only at d0 d1 d2 d3 d4
            go_wp2_with fail
            refine (q2 w2 _ c HS_2.out HM.out).mono ?_
            rintro e w3 ⟨rfl, hb2⟩
            clear c0 c1 c2 c3 c4 d0 d1 d2 d3 d4
            have H3 : Hid (Bx2 w w3 ⟨a, b, x2, x3, x4⟩ ⟨a', b', y2, y3, y4⟩) := H2.out.below hb2.out
            have HS_3 : Hid (Sn rAAr w3 ao L) := HS_2.out.below hb2.out
            have S1_3 : Hid (Sn rAAr w3 ao1 M1) := S1_2.out.below hb2.out
            clear H2 HS_2 S1_2 hb2
            clear q2
            clear p1 p2
            go_wp2
            go_ret
            exact ⟨rfl, H3.out.1⟩
        | error n1 =>
          clear s1
          cases r2 with
          | ok M2 =>
            clear s2
            as_aux_lemma =>
            obtain ⟨c0, c1, c2, c3, c4⟩ := AAr.laid (d := ⟨a, b, x2, x3, x4⟩) (H1.out.2.1)
            simp only at c0 c1 c2 c3 c4
            obtain ⟨d0, d1, d2, d3, d4⟩ := AAr.laid (d := ⟨a', b', y2, y3, y4⟩) (H1.out.2.2)
            simp only at d0 d1 d2 d3 d4
            go_wp2_with fail
            refine (q1 w1 _ c HS_1.out HM.out).mono ?_
            rintro e w2 ⟨rfl, hb1⟩
            clear c0 c1 c2 c3 c4 d0 d1 d2 d3 d4
            have H2 : Hid (Bx2 w w2 ⟨a, b, x2, x3, x4⟩ ⟨a', b', y2, y3, y4⟩) := H1.out.below hb1.out
            have HS_2 : Hid (Sn rAAr w2 ao L) := HS_1.out.below hb1.out
            clear H1 HS_1 hb1
            clear q1
            obtain ⟨c0, c1, c2, c3, c4⟩ := AAr.laid (d := ⟨a, b, x2, x3, x4⟩) (H2.out.2.1)
            simp only at c0 c1 c2 c3 c4
            obtain ⟨d0, d1, d2, d3, d4⟩ := AAr.laid (d := ⟨a', b', y2, y3, y4⟩) (H2.out.2.2)
            simp only at d0 d1 d2 d3 d4
            go_wp2_with fail
            refine (q2 w2 _ c HS_2.out HM.out).mono ?_
            rintro e w3 ⟨ao2, k2, rfl, hr2, hb2⟩
            clear c0 c1 c2 c3 c4 d0 d1 d2 d3 d4
            have H3 : Hid (Bx2 w w3 ⟨a, b, x2, x3, x4⟩ ⟨a', b', y2, y3, y4⟩) := H2.out.below hb2.out
            have HS_3 : Hid (Sn rAAr w3 ao L) := HS_2.out.below hb2.out
            have S2_3 : Hid (Sn rAAr w3 ao2 M2) := hr2.out.sn
            clear H2 HS_2 hr2 hb2
            clear q2
            clear p1 p2
            go_wp2
            go_ret
            exact ⟨rfl, H3.out.1⟩
          | error n2 =>
            clear s2
            as_aux_lemma =>
            obtain ⟨c0, c1, c2, c3, c4⟩ := AAr.laid (d := ⟨a, b, x2, x3, x4⟩) (H1.out.2.1)
            simp only at c0 c1 c2 c3 c4
            obtain ⟨d0, d1, d2, d3, d4⟩ := AAr.laid (d := ⟨a', b', y2, y3, y4⟩) (H1.out.2.2)
            simp only at d0 d1 d2 d3 d4
            go_wp2_with fail
            refine (q1 w1 _ c HS_1.out HM.out).mono ?_
            rintro e w2 ⟨rfl, hb1⟩
            clear c0 c1 c2 c3 c4 d0 d1 d2 d3 d4
            have H2 : Hid (Bx2 w w2 ⟨a, b, x2, x3, x4⟩ ⟨a', b', y2, y3, y4⟩) := H1.out.below hb1.out
            have HS_2 : Hid (Sn rAAr w2 ao L) := HS_1.out.below hb1.out
            clear H1 HS_1 hb1
            clear q1
            obtain ⟨c0, c1, c2, c3, c4⟩ := AAr.laid (d := ⟨a, b, x2, x3, x4⟩) (H2.out.2.1)
            simp only at c0 c1 c2 c3 c4
            obtain ⟨d0, d1, d2, d3, d4⟩ := AAr.laid (d := ⟨a', b', y2, y3, y4⟩) (H2.out.2.2)
            simp only at d0 d1 d2 d3 d4
            go_wp2_with fail
            refine (q2 w2 _ c HS_2.out HM.out).mono ?_
            rintro e w3 ⟨rfl, hb2⟩
            clear c0 c1 c2 c3 c4 d0 d1 d2 d3 d4
            have H3 : Hid (Bx2 w w3 ⟨a, b, x2, x3, x4⟩ ⟨a', b', y2, y3, y4⟩) := H2.out.below hb2.out
            have HS_3 : Hid (Sn rAAr w3 ao L) := HS_2.out.below hb2.out
            clear H2 HS_2 hb2
            clear q2
            clear p1 p2
            go_wp2
            go_ret
            exact ⟨rfl, H3.out.1⟩
    · have HNN : Hid (¬ (a < b' ∧ a' < b)) := fun h => t1 h.1
      go_enter Try.func8, Try.ntmps8
      go_wp2_with fail
      refine hU.mono ?_
      rintro e w1 ⟨rfl, hb1⟩
      have H1 : Hid (Bx2 w w1 ⟨a, b, x2, x3, x4⟩ ⟨a', b', y2, y3, y4⟩) := H0.out.below hb1
      have HS_1 : Hid (Sn rAAr w1 ao L) := HS.out.below H1.out.1
      clear hU hb1 H0 HS
      cases r1 with
      | ok M1 =>
        have S1S : Hid (LayS L a b (layA (ownA L) a b (some (x2, x3, x4))) (.ok M1)) := s1
        have HL1 : Hid (M1.length ≤ 64) := s1.sure.2.2.2
        clear s1
        cases r2 with
        | ok M2 =>
          have S2S : Hid (LayS L a' b' (layA (ownA L) a' b' (some (y2, y3, y4))) (.ok M2)) := s2
          have HL2 : Hid (M2.length ≤ 64) := s2.sure.2.2.2
          clear s2
          as_aux_lemma =>
          obtain ⟨c0, c1, c2, c3, c4⟩ := AAr.laid (d := ⟨a, b, x2, x3, x4⟩) (H1.out.2.1)
          simp only at c0 c1 c2 c3 c4
          obtain ⟨d0, d1, d2, d3, d4⟩ := AAr.laid (d := ⟨a', b', y2, y3, y4⟩) (H1.out.2.2)
          simp only at d0 d1 d2 d3 d4
          go_wp2_with fail
          refine (q1 w1 _ c HS_1.out HM.out).mono ?_
          rintro e w2 ⟨ao1, k1, rfl, hr1, hb1⟩
          clear c0 c1 c2 c3 c4 d0 d1 d2 d3 d4
          have H2 : Hid (Bx2 w w2 ⟨a, b, x2, x3, x4⟩ ⟨a', b', y2, y3, y4⟩) := H1.out.below hb1.out
          have HS_2 : Hid (Sn rAAr w2 ao L) := HS_1.out.below hb1.out
          have S1_2 : Hid (Sn rAAr w2 ao1 M1) := hr1.out.sn
          clear H1 HS_1 hr1 hb1
          clear q1
          obtain ⟨c0, c1, c2, c3, c4⟩ := AAr.laid (d := ⟨a, b, x2, x3, x4⟩) (H2.out.2.1)
          simp only at c0 c1 c2 c3 c4
          obtain ⟨d0, d1, d2, d3, d4⟩ := AAr.laid (d := ⟨a', b', y2, y3, y4⟩) (H2.out.2.2)
          simp only at d0 d1 d2 d3 d4
          go_wp2_with fail
          refine (q2 w2 _ c HS_2.out HM.out).mono ?_
          rintro e w3 ⟨ao2, k2, rfl, hr2, hb2⟩
          clear c0 c1 c2 c3 c4 d0 d1 d2 d3 d4
          have H3 : Hid (Bx2 w w3 ⟨a, b, x2, x3, x4⟩ ⟨a', b', y2, y3, y4⟩) := H2.out.below hb2.out
          have HS_3 : Hid (Sn rAAr w3 ao L) := HS_2.out.below hb2.out
          have S1_3 : Hid (Sn rAAr w3 ao1 M1) := S1_2.out.below hb2.out
          have S2_3 : Hid (Sn rAAr w3 ao2 M2) := hr2.out.sn
          clear H2 HS_2 S1_2 hr2 hb2
          clear q2
          obtain ⟨r3, s3, q3⟩ := p2 M1
          obtain ⟨r4, s4, q4⟩ := p1 M2
          obtain rfl := lay_order HNN.out S1S.out S2S.out s3 s4
          clear p1 p2 s4
          rcases s3.ok_or with ⟨M3, rfl, h3⟩ | rfl | rfl
          · have HL3 : Hid (M3.length ≤ 64) := h3
            clear h3
            clear s3
            obtain ⟨c0, c1, c2, c3, c4⟩ := AAr.laid (d := ⟨a, b, x2, x3, x4⟩) (H3.out.2.1)
            simp only at c0 c1 c2 c3 c4
            obtain ⟨d0, d1, d2, d3, d4⟩ := AAr.laid (d := ⟨a', b', y2, y3, y4⟩) (H3.out.2.2)
            simp only at d0 d1 d2 d3 d4
            go_wp2_with fail
            refine (q3 w3 _ k1 S1_3.out (by have := HL1.out; unfold maxLen; omega)).mono ?_
            rintro e w4 ⟨ao3, k3, rfl, hr3, hb3⟩
            clear c0 c1 c2 c3 c4 d0 d1 d2 d3 d4
            have H4 : Hid (Bx2 w w4 ⟨a, b, x2, x3, x4⟩ ⟨a', b', y2, y3, y4⟩) := H3.out.below hb3.out
            have HS_4 : Hid (Sn rAAr w4 ao L) := HS_3.out.below hb3.out
            have S1_4 : Hid (Sn rAAr w4 ao1 M1) := S1_3.out.below hb3.out
            have S2_4 : Hid (Sn rAAr w4 ao2 M2) := S2_3.out.below hb3.out
            have S3_4 : Hid (Sn rAAr w4 ao3 M3) := hr3.out.sn
            clear H3 HS_3 S1_3 S2_3 hr3 hb3
            clear q3
            obtain ⟨c0, c1, c2, c3, c4⟩ := AAr.laid (d := ⟨a, b, x2, x3, x4⟩) (H4.out.2.1)
            simp only at c0 c1 c2 c3 c4
            obtain ⟨d0, d1, d2, d3, d4⟩ := AAr.laid (d := ⟨a', b', y2, y3, y4⟩) (H4.out.2.2)
            simp only at d0 d1 d2 d3 d4
            go_wp2_with fail
            refine (q4 w4 _ k2 S2_4.out (by have := HL2.out; unfold maxLen; omega)).mono ?_
            rintro e w5 ⟨ao4, k4, rfl, hr4, hb4⟩
            clear c0 c1 c2 c3 c4 d0 d1 d2 d3 d4
            have H5 : Hid (Bx2 w w5 ⟨a, b, x2, x3, x4⟩ ⟨a', b', y2, y3, y4⟩) := H4.out.below hb4.out
            have HS_5 : Hid (Sn rAAr w5 ao L) := HS_4.out.below hb4.out
            have S1_5 : Hid (Sn rAAr w5 ao1 M1) := S1_4.out.below hb4.out
            have S2_5 : Hid (Sn rAAr w5 ao2 M2) := S2_4.out.below hb4.out
            have S3_5 : Hid (Sn rAAr w5 ao3 M3) := S3_4.out.below hb4.out
            have S4_5 : Hid (Sn rAAr w5 ao4 M3) := hr4.out.sn
            clear H4 HS_4 S1_4 S2_4 S3_4 hr4 hb4
            clear q4
            go_wp2_with fail
            refine (code_nil _).mono ?_
            rintro e w9 ⟨rfl, hw⟩
            obtain rfl := hw.symm
            clear hw
            go_wp2_with fail
            refine (code_nil _).mono ?_
            rintro e w9 ⟨rfl, hw⟩
            obtain rfl := hw.symm
            clear hw
            go_wp2_with fail
            refine (same_self (c1 := k3) (c2 := k4) S3_5.out S4_5.out (by have := HL3.out; unfold maxLen; omega)).mono ?_
            rintro e w9 ⟨rfl, hb9⟩
            have H9 : Hid (Below w.heap.size w w9) := below_call' H5.out.1 hb9
            clear hb9
            go_wp2
            go_ret
            exact ⟨rfl, H9.out⟩
          · clear s3
            obtain ⟨c0, c1, c2, c3, c4⟩ := AAr.laid (d := ⟨a, b, x2, x3, x4⟩) (H3.out.2.1)
            simp only at c0 c1 c2 c3 c4
            obtain ⟨d0, d1, d2, d3, d4⟩ := AAr.laid (d := ⟨a', b', y2, y3, y4⟩) (H3.out.2.2)
            simp only at d0 d1 d2 d3 d4
            go_wp2_with fail
            refine (q3 w3 _ k1 S1_3.out (by have := HL1.out; unfold maxLen; omega)).mono ?_
            rintro e w4 ⟨rfl, hb3⟩
            clear c0 c1 c2 c3 c4 d0 d1 d2 d3 d4
            have H4 : Hid (Bx2 w w4 ⟨a, b, x2, x3, x4⟩ ⟨a', b', y2, y3, y4⟩) := H3.out.below hb3.out
            have HS_4 : Hid (Sn rAAr w4 ao L) := HS_3.out.below hb3.out
            have S1_4 : Hid (Sn rAAr w4 ao1 M1) := S1_3.out.below hb3.out
            have S2_4 : Hid (Sn rAAr w4 ao2 M2) := S2_3.out.below hb3.out
            clear H3 HS_3 S1_3 S2_3 hb3
            clear q3
            obtain ⟨c0, c1, c2, c3, c4⟩ := AAr.laid (d := ⟨a, b, x2, x3, x4⟩) (H4.out.2.1)
            simp only at c0 c1 c2 c3 c4
            obtain ⟨d0, d1, d2, d3, d4⟩ := AAr.laid (d := ⟨a', b', y2, y3, y4⟩) (H4.out.2.2)
            simp only at d0 d1 d2 d3 d4
            go_wp2_with fail
            refine (q4 w4 _ k2 S2_4.out (by have := HL2.out; unfold maxLen; omega)).mono ?_
            rintro e w5 ⟨rfl, hb4⟩
            clear c0 c1 c2 c3 c4 d0 d1 d2 d3 d4
            have H5 : Hid (Bx2 w w5 ⟨a, b, x2, x3, x4⟩ ⟨a', b', y2, y3, y4⟩) := H4.out.below hb4.out
            have HS_5 : Hid (Sn rAAr w5 ao L) := HS_4.out.below hb4.out
            have S1_5 : Hid (Sn rAAr w5 ao1 M1) := S1_4.out.below hb4.out
            have S2_5 : Hid (Sn rAAr w5 ao2 M2) := S2_4.out.below hb4.out
            clear H4 HS_4 S1_4 S2_4 hb4
            clear q4
            go_wp2_with fail
            refine (code_any 1 _ (by decide) (by decide)).mono ?_
            rintro e w9 ⟨rfl, hw⟩
            obtain rfl := hw.symm
            clear hw
            go_wp2_with fail
            refine (code_any 1 _ (by decide) (by decide)).mono ?_
            rintro e w9 ⟨rfl, hw⟩
            obtain rfl := hw.symm
            clear hw
            go_wp2_with fail
            refine (same_self (L := []) (c1 := 0) (c2 := 0) (Sn.nil rAAr w5 none) (Sn.nil rAAr w5 none) (Nat.zero_le _)).mono ?_
            rintro e w9 ⟨rfl, hb9⟩
            have H9 : Hid (Below w.heap.size w w9) := below_call' H5.out.1 hb9
            clear hb9
            go_wp2
            go_ret
            exact ⟨rfl, H9.out⟩
          · clear s3
            obtain ⟨c0, c1, c2, c3, c4⟩ := AAr.laid (d := ⟨a, b, x2, x3, x4⟩) (H3.out.2.1)
            simp only at c0 c1 c2 c3 c4
            obtain ⟨d0, d1, d2, d3, d4⟩ := AAr.laid (d := ⟨a', b', y2, y3, y4⟩) (H3.out.2.2)
            simp only at d0 d1 d2 d3 d4
            go_wp2_with fail
            refine (q3 w3 _ k1 S1_3.out (by have := HL1.out; unfold maxLen; omega)).mono ?_
            rintro e w4 ⟨rfl, hb3⟩
            clear c0 c1 c2 c3 c4 d0 d1 d2 d3 d4
            have H4 : Hid (Bx2 w w4 ⟨a, b, x2, x3, x4⟩ ⟨a', b', y2, y3, y4⟩) := H3.out.below hb3.out
            have HS_4 : Hid (Sn rAAr w4 ao L) := HS_3.out.below hb3.out
            have S1_4 : Hid (Sn rAAr w4 ao1 M1) := S1_3.out.below hb3.out
            have S2_4 : Hid (Sn rAAr w4 ao2 M2) := S2_3.out.below hb3.out
            clear H3 HS_3 S1_3 S2_3 hb3
            clear q3
            obtain ⟨c0, c1, c2, c3, c4⟩ := AAr.laid (d := ⟨a, b, x2, x3, x4⟩) (H4.out.2.1)
            simp only at c0 c1 c2 c3 c4
            obtain ⟨d0, d1, d2, d3, d4⟩ := AAr.laid (d := ⟨a', b', y2, y3, y4⟩) (H4.out.2.2)
            simp only at d0 d1 d2 d3 d4
            go_wp2_with fail
            refine (q4 w4 _ k2 S2_4.out (by have := HL2.out; unfold maxLen; omega)).mono ?_
            rintro e w5 ⟨rfl, hb4⟩
            clear c0 c1 c2 c3 c4 d0 d1 d2 d3 d4
            have H5 : Hid (Bx2 w w5 ⟨a, b, x2, x3, x4⟩ ⟨a', b', y2, y3, y4⟩) := H4.out.below hb4.out
            have HS_5 : Hid (Sn rAAr w5 ao L) := HS_4.out.below hb4.out
            have S1_5 : Hid (Sn rAAr w5 ao1 M1) := S1_4.out.below hb4.out
            have S2_5 : Hid (Sn rAAr w5 ao2 M2) := S2_4.out.below hb4.out
            clear H4 HS_4 S1_4 S2_4 hb4
            clear q4
            go_wp2_with fail
            refine (code_any 5 _ (by decide) (by decide)).mono ?_
            rintro e w9 ⟨rfl, hw⟩
            obtain rfl := hw.symm
            clear hw
            go_wp2_with fail
            refine (code_any 5 _ (by decide) (by decide)).mono ?_
            rintro e w9 ⟨rfl, hw⟩
            obtain rfl := hw.symm
            clear hw
            go_wp2_with fail
            refine (same_self (L := []) (c1 := 0) (c2 := 0) (Sn.nil rAAr w5 none) (Sn.nil rAAr w5 none) (Nat.zero_le _)).mono ?_
            rintro e w9 ⟨rfl, hb9⟩
            have H9 : Hid (Below w.heap.size w w9) := below_call' H5.out.1 hb9
            clear hb9
            go_wp2
            go_ret
            exact ⟨rfl, H9.out⟩
        | error n2 =>
          clear s2
          as_aux_lemma =>
          obtain ⟨c0, c1, c2, c3, c4⟩ := AAr.laid (d := ⟨a, b, x2, x3, x4⟩) (H1.out.2.1)
          simp only at c0 c1 c2 c3 c4
          obtain ⟨d0, d1, d2, d3, d4⟩ := AAr.laid (d := ⟨a', b', y2, y3, y4⟩) (H1.out.2.2)
          simp only at d0 d1 d2 d3 d4
          go_wp2_with fail
          refine (q1 w1 _ c HS_1.out HM.out).mono ?_
          rintro e w2 ⟨ao1, k1, rfl, hr1, hb1⟩
          clear c0 c1 c2 c3 c4 d0 d1 d2 d3 d4
          have H2 : Hid (Bx2 w w2 ⟨a, b, x2, x3, x4⟩ ⟨a', b', y2, y3, y4⟩) := H1.out.below hb1.out
          have HS_2 : Hid (Sn rAAr w2 ao L) := HS_1.out.below hb1.out
          have S1_2 : Hid (Sn rAAr w2 ao1 M1) := hr1.out.sn
          clear H1 HS_1 hr1 hb1
          clear q1
          obtain ⟨c0, c1, c2, c3, c4⟩ := AAr.laid (d := ⟨a, b, x2, x3, x4⟩) (H2.out.2.1)
          simp only at c0 c1 c2 c3 c4
          obtain ⟨d0, d1, d2, d3, d4⟩ := AAr.laid (d := ⟨a', b', y2, y3, y4⟩) (H2.out.2.2)
          simp only at d0 d1 d2 d3 d4
          go_wp2_with fail
          refine (q2 w2 _ c HS_2.out HM.out).mono ?_
          rintro e w3 ⟨rfl, hb2⟩
          clear c0 c1 c2 c3 c4 d0 d1 d2 d3 d4
          have H3 : Hid (Bx2 w w3 ⟨a, b, x2, x3, x4⟩ ⟨a', b', y2, y3, y4⟩) := H2.out.below hb2.out
          have HS_3 : Hid (Sn rAAr w3 ao L) := HS_2.out.below hb2.out
          have S1_3 : Hid (Sn rAAr w3 ao1 M1) := S1_2.out.below hb2.out
          clear H2 HS_2 S1_2 hb2
          clear q2
          clear p1 p2
          go_wp2
          go_ret
          exact ⟨rfl, H3.out.1⟩
      | error n1 =>
        clear s1
        cases r2 with
        | ok M2 =>
          clear s2
          as_aux_lemma =>
          obtain ⟨c0, c1, c2, c3, c4⟩ := AAr.laid (d := ⟨a, b, x2, x3, x4⟩) (H1.out.2.1)
          simp only at c0 c1 c2 c3 c4
          obtain ⟨d0, d1, d2, d3, d4⟩ := AAr.laid (d := ⟨a', b', y2, y3, y4⟩) (H1.out.2.2)
          simp only at d0 d1 d2 d3 d4
          go_wp2_with fail
          refine (q1 w1 _ c HS_1.out HM.out).mono ?_
          rintro e w2 ⟨rfl, hb1⟩
          clear c0 c1 c2 c3 c4 d0 d1 d2 d3 d4
          have H2 : Hid (Bx2 w w2 ⟨a, b, x2, x3, x4⟩ ⟨a', b', y2, y3, y4⟩) := H1.out.below hb1.out
          have HS_2 : Hid (Sn rAAr w2 ao L) := HS_1.out.below hb1.out
          clear H1 HS_1 hb1
          clear q1
          obtain ⟨c0, c1, c2, c3, c4⟩ := AAr.laid (d := ⟨a, b, x2, x3, x4⟩) (H2.out.2.1)
          simp only at c0 c1 c2 c3 c4
          obtain ⟨d0, d1, d2, d3, d4⟩ := AAr.laid (d := ⟨a', b', y2, y3, y4⟩) (H2.out.2.2)
          simp only at d0 d1 d2 d3 d4
          go_wp2_with fail
          refine (q2 w2 _ c HS_2.out HM.out).mono ?_
          rintro e w3 ⟨ao2, k2, rfl, hr2, hb2⟩
          clear c0 c1 c2 c3 c4 d0 d1 d2 d3 d4
          have H3 : Hid (Bx2 w w3 ⟨a, b, x2, x3, x4⟩ ⟨a', b', y2, y3, y4⟩) := H2.out.below hb2.out
          have HS_3 : Hid (Sn rAAr w3 ao L) := HS_2.out.below hb2.out
          have S2_3 : Hid (Sn rAAr w3 ao2 M2) := hr2.out.sn
          clear H2 HS_2 hr2 hb2
          clear q2
          clear p1 p2
          go_wp2
          go_ret
          exact ⟨rfl, H3.out.1⟩
        | error n2 =>
          clear s2
          as_aux_lemma =>
          obtain ⟨c0, c1, c2, c3, c4⟩ := AAr.laid (d := ⟨a, b, x2, x3, x4⟩) (H1.out.2.1)
          simp only at c0 c1 c2 c3 c4
          obtain ⟨d0, d1, d2, d3, d4⟩ := AAr.laid (d := ⟨a', b', y2, y3, y4⟩) (H1.out.2.2)
          simp only at d0 d1 d2 d3 d4
          go_wp2_with fail
          refine (q1 w1 _ c HS_1.out HM.out).mono ?_
          rintro e w2 ⟨rfl, hb1⟩
          clear c0 c1 c2 c3 c4 d0 d1 d2 d3 d4
          have H2 : Hid (Bx2 w w2 ⟨a, b, x2, x3, x4⟩ ⟨a', b', y2, y3, y4⟩) := H1.out.below hb1.out
          have HS_2 : Hid (Sn rAAr w2 ao L) := HS_1.out.below hb1.out
          clear H1 HS_1 hb1
          clear q1
          obtain ⟨c0, c1, c2, c3, c4⟩ := AAr.laid (d := ⟨a, b, x2, x3, x4⟩) (H2.out.2.1)
          simp only at c0 c1 c2 c3 c4
          obtain ⟨d0, d1, d2, d3, d4⟩ := AAr.laid (d := ⟨a', b', y2, y3, y4⟩) (H2.out.2.2)
          simp only at d0 d1 d2 d3 d4
          go_wp2_with fail
          refine (q2 w2 _ c HS_2.out HM.out).mono ?_
          rintro e w3 ⟨rfl, hb2⟩
          clear c0 c1 c2 c3 c4 d0 d1 d2 d3 d4
          have H3 : Hid (Bx2 w w3 ⟨a, b, x2, x3, x4⟩ ⟨a', b', y2, y3, y4⟩) := H2.out.below hb2.out
          have HS_3 : Hid (Sn rAAr w3 ao L) := HS_2.out.below hb2.out
          clear H2 HS_2 hb2
          clear q2
          clear p1 p2
          go_wp2
          go_ret
          exact ⟨rfl, H3.out.1⟩
  · have h200z : decide ((200 : Int) < (L.length : Int)) = true := decide_eq_true (by omega)
    clear q1 q2 p1 p2 s1 s2
    go_enter Try.func8, Try.ntmps8
    go_wp2_with fail
    refine hU.mono ?_
    rintro e w1 ⟨rfl, hb1⟩
    have H1 : Hid (Bx2 w w1 ⟨a, b, x2, x3, x4⟩ ⟨a', b', y2, y3, y4⟩) := H0.out.below hb1
    have HS_1 : Hid (Sn rAAr w1 ao L) := HS.out.below H1.out.1
    clear hU hb1 H0 HS
    obtain ⟨c0, c1, c2, c3, c4⟩ := AAr.laid (d := ⟨a, b, x2, x3, x4⟩) (H1.out.2.1)
    simp only at c0 c1 c2 c3 c4
    obtain ⟨d0, d1, d2, d3, d4⟩ := AAr.laid (d := ⟨a', b', y2, y3, y4⟩) (H1.out.2.2)
    simp only at d0 d1 d2 d3 d4
    go_wp2
    go_ret
    exact ⟨rfl, H1.out.1⟩
theorem walk_areaOrder (ao : Option Addr) (len cap : Nat) (D : Nat → AAr) (d e : AAr) (w : World) (hm : len ≤ maxLen) (hL : Lst AAr.cells AAr.ok 5 w ao len D) (_ : d.ok) (_ : e.ok) :
    Calls Try.prog 8 #[.slice ao len cap, .agg d.cells.toArray, .agg e.cells.toArray] w fun e w' => e = .returned (.bool true) ∧ Below w.heap.size w w' := by
  have h := order_any (c := cap) hL.sn (by rw [lstN]; exact hm) d e
  rwa [lstN] at h
end Go.Proofs.Ytaeodbeodacmaaa
