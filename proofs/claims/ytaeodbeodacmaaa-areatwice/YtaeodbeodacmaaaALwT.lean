/- AreaTwice, walked (printed by tools/gen/gen_area9.py). -/
import Derived.Test.YtaeodbeodacmaaaABox
namespace Go.Proofs.Ytaeodbeodacmaaa
open Go.RowKit

set_option maxRecDepth 100000 in
set_option maxHeartbeats 16000000 in
theorem twice_any {w : World} {ao : Option Addr} {c : Nat} {L : List AAr} (hs : Sn rAAr w ao L) (hm : L.length ≤ maxLen) (dd : AAr) :
    Calls Try.prog 10 #[.slice ao L.length c, av dd] w fun e w' => e = .returned (.bool true) ∧ Below w.heap.size w w' := by
  obtain ⟨r1, s1, q1⟩ := lay_tell L dd
  obtain ⟨r2, s2, q2⟩ := cut_tell L dd.a dd.b
  have H0 : Hid (Bx1 w (w.alloc (.cells dd.arr 32)) dd) := Bx1.new w dd
  have hU := up_any (w.alloc (.cells dd.arr 32))
  have HS : Hid (Sn rAAr w ao L) := hs
  have HM : Hid (L.length ≤ maxLen) := hm
  have hm' : L.length ≤ 9223372036854775807 := by unfold maxLen at hm; omega
  have hd : ∃ e : AAr, e = dd := ⟨_, rfl⟩
  have q1' : ∀ M : List AAr, ∃ r, LayS M dd.a dd.b (layA (ownA M) dd.a dd.b (some dd.pg)) r ∧ ∀ w ao c, Sn rAAr w ao M → M.length ≤ maxLen → Calls Try.prog 20 #[.slice ao M.length c, av dd] w (TellW w r) := fun M => lay_tell M dd
  clear hs hm hd
  obtain ⟨a, b, x2, x3, x4⟩ := dd
  unfold AAr.arr at H0 hU
  unfold av at *
  simp only [AAr.pg] at *
  by_cases h200 : L.length ≤ 200
  · have h200z : ¬ (200 : Int) < (L.length : Int) := by omega
    go_enter Try.func10, Try.ntmps10
    go_wp2_with fail
    refine hU.mono ?_
    rintro e w1 ⟨rfl, hb1⟩
    have H1 : Hid (Bx1 w w1 ⟨a, b, x2, x3, x4⟩) := H0.out.below hb1
    have HS1 : Hid (Sn rAAr w1 ao L) := HS.out.below H1.out.1
    clear hU hb1 H0 HS
    have HS_1 : Hid (Sn rAAr w1 ao L) := HS1
    clear HS1
    cases r1 with
    | ok M1 =>
      have S1S : Hid (LayS L a b (layA (ownA L) a b (some (x2, x3, x4))) (.ok M1)) := s1
      have HL1 : Hid (M1.length ≤ 64) := s1.sure.2.2.2
      clear s1
      cases r2 with
      | ok M2 =>
        have S2S : Hid (LayS L a b (layA (ownA L) a b none) (.ok M2)) := s2
        have HL2 : Hid (M2.length ≤ 64) := s2.sure.2.2.2
        clear s2
        as_aux_lemma =>
        obtain ⟨c0, c1, c2, c3, c4⟩ := AAr.laid (d := ⟨a, b, x2, x3, x4⟩) (H1.out.2.1)
        simp only at c0 c1 c2 c3 c4
        go_wp2_with fail
        refine (q1 w1 _ c HS_1.out HM.out).mono ?_
        rintro e w2 ⟨ao1, k1, rfl, hr1, hb1⟩
        clear c0 c1 c2 c3 c4
        have H2 : Hid (Bx1 w w2 ⟨a, b, x2, x3, x4⟩) := H1.out.below hb1.out
        have HS_2 : Hid (Sn rAAr w2 ao L) := HS_1.out.below hb1.out
        have S1_2 : Hid (Sn rAAr w2 ao1 M1) := hr1.out.sn
        clear H1 HS_1 hr1 hb1
        clear q1
        obtain ⟨c0, c1, c2, c3, c4⟩ := AAr.laid (d := ⟨a, b, x2, x3, x4⟩) (H2.out.2.1)
        simp only at c0 c1 c2 c3 c4
        go_wp2_with fail
        refine (q2 w2 _ c HS_2.out HM.out).mono ?_
        rintro e w3 ⟨ao2, k2, rfl, hr2, hb2⟩
        clear c0 c1 c2 c3 c4
        have H3 : Hid (Bx1 w w3 ⟨a, b, x2, x3, x4⟩) := H2.out.below hb2.out
        have HS_3 : Hid (Sn rAAr w3 ao L) := HS_2.out.below hb2.out
        have S1_3 : Hid (Sn rAAr w3 ao1 M1) := S1_2.out.below hb2.out
        have S2_3 : Hid (Sn rAAr w3 ao2 M2) := hr2.out.sn
        clear H2 HS_2 S1_2 hr2 hb2
        clear q2
        obtain ⟨r3, s3, q3⟩ := q1' M1
        obtain rfl := lay_twice S1S.out s3
        clear s3 q1'
        obtain ⟨c0, c1, c2, c3, c4⟩ := AAr.laid (d := ⟨a, b, x2, x3, x4⟩) (H3.out.2.1)
        simp only at c0 c1 c2 c3 c4
        go_wp2_with fail
        refine (q3 w3 _ k1 S1_3.out (by have := HL1.out; unfold maxLen; omega)).mono ?_
        rintro e w4 ⟨ao3, k3, rfl, hr3, hb3⟩
        clear c0 c1 c2 c3 c4
        have H4 : Hid (Bx1 w w4 ⟨a, b, x2, x3, x4⟩) := H3.out.below hb3.out
        have HS_4 : Hid (Sn rAAr w4 ao L) := HS_3.out.below hb3.out
        have S1_4 : Hid (Sn rAAr w4 ao1 M1) := S1_3.out.below hb3.out
        have S2_4 : Hid (Sn rAAr w4 ao2 M2) := S2_3.out.below hb3.out
        have S3_4 : Hid (Sn rAAr w4 ao3 M1) := hr3.out.sn
        clear H3 HS_3 S1_3 S2_3 hr3 hb3
        clear q3
        obtain ⟨c0, c1, c2, c3, c4⟩ := AAr.laid (d := ⟨a, b, x2, x3, x4⟩) (H4.out.2.1)
        simp only at c0 c1 c2 c3 c4
        clear c0 c1 c2 c3 c4
        have c0 := True.intro; have c1 := True.intro; have c2 := True.intro; have c3 := True.intro; have c4 := True.intro
        go_wp2_with fail
        refine (same_self (c1 := k1) (c2 := k3) S1_4.out S3_4.out (by have := HL1.out; unfold maxLen; omega)).mono ?_
        rintro e w5 ⟨rfl, hb7⟩
        clear c0 c1 c2 c3 c4
        have H5 : Hid (Bx1 w w5 ⟨a, b, x2, x3, x4⟩) := H4.out.below (hb7)
        have HS_5 : Hid (Sn rAAr w5 ao L) := HS_4.out.below (hb7)
        have S1_5 : Hid (Sn rAAr w5 ao1 M1) := S1_4.out.below (hb7)
        have S2_5 : Hid (Sn rAAr w5 ao2 M2) := S2_4.out.below (hb7)
        have S3_5 : Hid (Sn rAAr w5 ao3 M1) := S3_4.out.below (hb7)
        clear H4 HS_4 S1_4 S2_4 S3_4 hb7
        obtain ⟨r4, s4, q4⟩ := cut_tell M2 a b
        obtain rfl := lay_twice S2S.out s4
        obtain ⟨r5, s5, q5⟩ := cut_tell M2 0 4096
        obtain rfl := cut_all ((S2S.out.sure).2.2.1.may HL2.out) s5
        have Q4 := q4
        clear s4 s5
        obtain ⟨c0, c1, c2, c3, c4⟩ := AAr.laid (d := ⟨a, b, x2, x3, x4⟩) (H5.out.2.1)
        simp only at c0 c1 c2 c3 c4
        go_wp2_with fail
        refine (q4 w5 _ k2 S2_5.out (by have := HL2.out; unfold maxLen; omega)).mono ?_
        rintro e w6 ⟨ao4, k4, rfl, hr4, hb4⟩
        clear c0 c1 c2 c3 c4
        have H6 : Hid (Bx1 w w6 ⟨a, b, x2, x3, x4⟩) := H5.out.below hb4.out
        have HS_6 : Hid (Sn rAAr w6 ao L) := HS_5.out.below hb4.out
        have S1_6 : Hid (Sn rAAr w6 ao1 M1) := S1_5.out.below hb4.out
        have S2_6 : Hid (Sn rAAr w6 ao2 M2) := S2_5.out.below hb4.out
        have S3_6 : Hid (Sn rAAr w6 ao3 M1) := S3_5.out.below hb4.out
        have S4_6 : Hid (Sn rAAr w6 ao4 M2) := hr4.out.sn
        clear H5 HS_5 S1_5 S2_5 S3_5 hr4 hb4
        obtain ⟨c0, c1, c2, c3, c4⟩ := AAr.laid (d := ⟨a, b, x2, x3, x4⟩) (H6.out.2.1)
        simp only at c0 c1 c2 c3 c4
        go_wp2_with fail
        refine (q5 w6 _ k2 S2_6.out (by have := HL2.out; unfold maxLen; omega)).mono ?_
        rintro e w7 ⟨ao5, k5, rfl, hr5, hb5⟩
        clear c0 c1 c2 c3 c4
        have H7 : Hid (Bx1 w w7 ⟨a, b, x2, x3, x4⟩) := H6.out.below hb5.out
        have HS_7 : Hid (Sn rAAr w7 ao L) := HS_6.out.below hb5.out
        have S1_7 : Hid (Sn rAAr w7 ao1 M1) := S1_6.out.below hb5.out
        have S2_7 : Hid (Sn rAAr w7 ao2 M2) := S2_6.out.below hb5.out
        have S3_7 : Hid (Sn rAAr w7 ao3 M1) := S3_6.out.below hb5.out
        have S4_7 : Hid (Sn rAAr w7 ao4 M2) := S4_6.out.below hb5.out
        have S5_7 : Hid (Sn rAAr w7 ao5 []) := hr5.out.sn
        clear H6 HS_6 S1_6 S2_6 S3_6 S4_6 hr5 hb5
        clear q4 q5 Q4
        obtain ⟨c0, c1, c2, c3, c4⟩ := AAr.laid (d := ⟨a, b, x2, x3, x4⟩) (H7.out.2.1)
        simp only at c0 c1 c2 c3 c4
        clear c0 c1 c2 c3 c4
        have c0 := True.intro; have c1 := True.intro; have c2 := True.intro; have c3 := True.intro; have c4 := True.intro
        go_wp2_with fail
        refine (same_self (c1 := k2) (c2 := k4) S2_7.out S4_7.out (by have := HL2.out; unfold maxLen; omega)).mono ?_
        rintro e w8 ⟨rfl, hb6⟩
        clear c0 c1 c2 c3 c4
        have H8 : Hid (Bx1 w w8 ⟨a, b, x2, x3, x4⟩) := H7.out.below (hb6)
        have HS_8 : Hid (Sn rAAr w8 ao L) := HS_7.out.below (hb6)
        have S1_8 : Hid (Sn rAAr w8 ao1 M1) := S1_7.out.below (hb6)
        have S2_8 : Hid (Sn rAAr w8 ao2 M2) := S2_7.out.below (hb6)
        have S3_8 : Hid (Sn rAAr w8 ao3 M1) := S3_7.out.below (hb6)
        have S4_8 : Hid (Sn rAAr w8 ao4 M2) := S4_7.out.below (hb6)
        have S5_8 : Hid (Sn rAAr w8 ao5 []) := S5_7.out.below (hb6)
        clear H7 HS_7 S1_7 S2_7 S3_7 S4_7 S5_7 hb6
        go_wp2
        go_ret
        exact ⟨rfl, H8.out.1⟩
      | error n2 =>
        clear s2
        as_aux_lemma =>
        obtain ⟨c0, c1, c2, c3, c4⟩ := AAr.laid (d := ⟨a, b, x2, x3, x4⟩) (H1.out.2.1)
        simp only at c0 c1 c2 c3 c4
        go_wp2_with fail
        refine (q1 w1 _ c HS_1.out HM.out).mono ?_
        rintro e w2 ⟨ao1, k1, rfl, hr1, hb1⟩
        clear c0 c1 c2 c3 c4
        have H2 : Hid (Bx1 w w2 ⟨a, b, x2, x3, x4⟩) := H1.out.below hb1.out
        have HS_2 : Hid (Sn rAAr w2 ao L) := HS_1.out.below hb1.out
        have S1_2 : Hid (Sn rAAr w2 ao1 M1) := hr1.out.sn
        clear H1 HS_1 hr1 hb1
        clear q1
        obtain ⟨c0, c1, c2, c3, c4⟩ := AAr.laid (d := ⟨a, b, x2, x3, x4⟩) (H2.out.2.1)
        simp only at c0 c1 c2 c3 c4
        go_wp2_with fail
        refine (q2 w2 _ c HS_2.out HM.out).mono ?_
        rintro e w3 ⟨rfl, hb2⟩
        clear c0 c1 c2 c3 c4
        have H3 : Hid (Bx1 w w3 ⟨a, b, x2, x3, x4⟩) := H2.out.below hb2.out
        have HS_3 : Hid (Sn rAAr w3 ao L) := HS_2.out.below hb2.out
        have S1_3 : Hid (Sn rAAr w3 ao1 M1) := S1_2.out.below hb2.out
        clear H2 HS_2 S1_2 hb2
        clear q2
        obtain ⟨r3, s3, q3⟩ := q1' M1
        obtain rfl := lay_twice S1S.out s3
        clear s3 q1'
        obtain ⟨c0, c1, c2, c3, c4⟩ := AAr.laid (d := ⟨a, b, x2, x3, x4⟩) (H3.out.2.1)
        simp only at c0 c1 c2 c3 c4
        go_wp2_with fail
        refine (q3 w3 _ k1 S1_3.out (by have := HL1.out; unfold maxLen; omega)).mono ?_
        rintro e w4 ⟨ao3, k3, rfl, hr3, hb3⟩
        clear c0 c1 c2 c3 c4
        have H4 : Hid (Bx1 w w4 ⟨a, b, x2, x3, x4⟩) := H3.out.below hb3.out
        have HS_4 : Hid (Sn rAAr w4 ao L) := HS_3.out.below hb3.out
        have S1_4 : Hid (Sn rAAr w4 ao1 M1) := S1_3.out.below hb3.out
        have S3_4 : Hid (Sn rAAr w4 ao3 M1) := hr3.out.sn
        clear H3 HS_3 S1_3 hr3 hb3
        clear q3
        obtain ⟨c0, c1, c2, c3, c4⟩ := AAr.laid (d := ⟨a, b, x2, x3, x4⟩) (H4.out.2.1)
        simp only at c0 c1 c2 c3 c4
        clear c0 c1 c2 c3 c4
        have c0 := True.intro; have c1 := True.intro; have c2 := True.intro; have c3 := True.intro; have c4 := True.intro
        go_wp2_with fail
        refine (same_self (c1 := k1) (c2 := k3) S1_4.out S3_4.out (by have := HL1.out; unfold maxLen; omega)).mono ?_
        rintro e w5 ⟨rfl, hb7⟩
        clear c0 c1 c2 c3 c4
        have H5 : Hid (Bx1 w w5 ⟨a, b, x2, x3, x4⟩) := H4.out.below (hb7)
        have HS_5 : Hid (Sn rAAr w5 ao L) := HS_4.out.below (hb7)
        have S1_5 : Hid (Sn rAAr w5 ao1 M1) := S1_4.out.below (hb7)
        have S3_5 : Hid (Sn rAAr w5 ao3 M1) := S3_4.out.below (hb7)
        clear H4 HS_4 S1_4 S3_4 hb7
        go_wp2
        go_ret
        exact ⟨rfl, H5.out.1⟩
    | error n1 =>
      clear s1
      cases r2 with
      | ok M2 =>
        have S2S : Hid (LayS L a b (layA (ownA L) a b none) (.ok M2)) := s2
        have HL2 : Hid (M2.length ≤ 64) := s2.sure.2.2.2
        clear s2
        as_aux_lemma =>
        obtain ⟨c0, c1, c2, c3, c4⟩ := AAr.laid (d := ⟨a, b, x2, x3, x4⟩) (H1.out.2.1)
        simp only at c0 c1 c2 c3 c4
        go_wp2_with fail
        refine (q1 w1 _ c HS_1.out HM.out).mono ?_
        rintro e w2 ⟨rfl, hb1⟩
        clear c0 c1 c2 c3 c4
        have H2 : Hid (Bx1 w w2 ⟨a, b, x2, x3, x4⟩) := H1.out.below hb1.out
        have HS_2 : Hid (Sn rAAr w2 ao L) := HS_1.out.below hb1.out
        clear H1 HS_1 hb1
        clear q1
        obtain ⟨c0, c1, c2, c3, c4⟩ := AAr.laid (d := ⟨a, b, x2, x3, x4⟩) (H2.out.2.1)
        simp only at c0 c1 c2 c3 c4
        go_wp2_with fail
        refine (q2 w2 _ c HS_2.out HM.out).mono ?_
        rintro e w3 ⟨ao2, k2, rfl, hr2, hb2⟩
        clear c0 c1 c2 c3 c4
        have H3 : Hid (Bx1 w w3 ⟨a, b, x2, x3, x4⟩) := H2.out.below hb2.out
        have HS_3 : Hid (Sn rAAr w3 ao L) := HS_2.out.below hb2.out
        have S2_3 : Hid (Sn rAAr w3 ao2 M2) := hr2.out.sn
        clear H2 HS_2 hr2 hb2
        clear q2
        clear q1'
        obtain ⟨r4, s4, q4⟩ := cut_tell M2 a b
        obtain rfl := lay_twice S2S.out s4
        obtain ⟨r5, s5, q5⟩ := cut_tell M2 0 4096
        obtain rfl := cut_all ((S2S.out.sure).2.2.1.may HL2.out) s5
        have Q4 := q4
        clear s4 s5
        obtain ⟨c0, c1, c2, c3, c4⟩ := AAr.laid (d := ⟨a, b, x2, x3, x4⟩) (H3.out.2.1)
        simp only at c0 c1 c2 c3 c4
        go_wp2_with fail
        refine (q4 w3 _ k2 S2_3.out (by have := HL2.out; unfold maxLen; omega)).mono ?_
        rintro e w4 ⟨ao4, k4, rfl, hr4, hb4⟩
        clear c0 c1 c2 c3 c4
        have H4 : Hid (Bx1 w w4 ⟨a, b, x2, x3, x4⟩) := H3.out.below hb4.out
        have HS_4 : Hid (Sn rAAr w4 ao L) := HS_3.out.below hb4.out
        have S2_4 : Hid (Sn rAAr w4 ao2 M2) := S2_3.out.below hb4.out
        have S4_4 : Hid (Sn rAAr w4 ao4 M2) := hr4.out.sn
        clear H3 HS_3 S2_3 hr4 hb4
        obtain ⟨c0, c1, c2, c3, c4⟩ := AAr.laid (d := ⟨a, b, x2, x3, x4⟩) (H4.out.2.1)
        simp only at c0 c1 c2 c3 c4
        go_wp2_with fail
        refine (q5 w4 _ k2 S2_4.out (by have := HL2.out; unfold maxLen; omega)).mono ?_
        rintro e w5 ⟨ao5, k5, rfl, hr5, hb5⟩
        clear c0 c1 c2 c3 c4
        have H5 : Hid (Bx1 w w5 ⟨a, b, x2, x3, x4⟩) := H4.out.below hb5.out
        have HS_5 : Hid (Sn rAAr w5 ao L) := HS_4.out.below hb5.out
        have S2_5 : Hid (Sn rAAr w5 ao2 M2) := S2_4.out.below hb5.out
        have S4_5 : Hid (Sn rAAr w5 ao4 M2) := S4_4.out.below hb5.out
        have S5_5 : Hid (Sn rAAr w5 ao5 []) := hr5.out.sn
        clear H4 HS_4 S2_4 S4_4 hr5 hb5
        clear q4 q5 Q4
        obtain ⟨c0, c1, c2, c3, c4⟩ := AAr.laid (d := ⟨a, b, x2, x3, x4⟩) (H5.out.2.1)
        simp only at c0 c1 c2 c3 c4
        clear c0 c1 c2 c3 c4
        have c0 := True.intro; have c1 := True.intro; have c2 := True.intro; have c3 := True.intro; have c4 := True.intro
        go_wp2_with fail
        refine (same_self (c1 := k2) (c2 := k4) S2_5.out S4_5.out (by have := HL2.out; unfold maxLen; omega)).mono ?_
        rintro e w6 ⟨rfl, hb6⟩
        clear c0 c1 c2 c3 c4
        have H6 : Hid (Bx1 w w6 ⟨a, b, x2, x3, x4⟩) := H5.out.below (hb6)
        have HS_6 : Hid (Sn rAAr w6 ao L) := HS_5.out.below (hb6)
        have S2_6 : Hid (Sn rAAr w6 ao2 M2) := S2_5.out.below (hb6)
        have S4_6 : Hid (Sn rAAr w6 ao4 M2) := S4_5.out.below (hb6)
        have S5_6 : Hid (Sn rAAr w6 ao5 []) := S5_5.out.below (hb6)
        clear H5 HS_5 S2_5 S4_5 S5_5 hb6
        go_wp2
        go_ret
        exact ⟨rfl, H6.out.1⟩
      | error n2 =>
        clear s2
        as_aux_lemma =>
        obtain ⟨c0, c1, c2, c3, c4⟩ := AAr.laid (d := ⟨a, b, x2, x3, x4⟩) (H1.out.2.1)
        simp only at c0 c1 c2 c3 c4
        go_wp2_with fail
        refine (q1 w1 _ c HS_1.out HM.out).mono ?_
        rintro e w2 ⟨rfl, hb1⟩
        clear c0 c1 c2 c3 c4
        have H2 : Hid (Bx1 w w2 ⟨a, b, x2, x3, x4⟩) := H1.out.below hb1.out
        have HS_2 : Hid (Sn rAAr w2 ao L) := HS_1.out.below hb1.out
        clear H1 HS_1 hb1
        clear q1
        obtain ⟨c0, c1, c2, c3, c4⟩ := AAr.laid (d := ⟨a, b, x2, x3, x4⟩) (H2.out.2.1)
        simp only at c0 c1 c2 c3 c4
        go_wp2_with fail
        refine (q2 w2 _ c HS_2.out HM.out).mono ?_
        rintro e w3 ⟨rfl, hb2⟩
        clear c0 c1 c2 c3 c4
        have H3 : Hid (Bx1 w w3 ⟨a, b, x2, x3, x4⟩) := H2.out.below hb2.out
        have HS_3 : Hid (Sn rAAr w3 ao L) := HS_2.out.below hb2.out
        clear H2 HS_2 hb2
        clear q2
        clear q1'
        go_wp2
        go_ret
        exact ⟨rfl, H3.out.1⟩
  · have h200z : (200 : Int) < (L.length : Int) := by omega
    go_enter Try.func10, Try.ntmps10
    go_wp2_with fail
    refine hU.mono ?_
    rintro e w1 ⟨rfl, hb1⟩
    have H1 : Hid (Bx1 w w1 ⟨a, b, x2, x3, x4⟩) := H0.out.below hb1
    clear hU hb1 H0
    go_wp2
    go_ret
    exact ⟨rfl, H1.out.1⟩
theorem walk_areaTwice (ao : Option Addr) (len cap : Nat) (D : Nat → AAr) (d : AAr) (w : World) (hm : len ≤ maxLen) (hL : Lst AAr.cells AAr.ok 5 w ao len D) (_ : d.ok) :
    Calls Try.prog 10 #[.slice ao len cap, .agg d.cells.toArray] w fun e w' => e = .returned (.bool true) ∧ Below w.heap.size w w' := by
  have h := twice_any (c := cap) hL.sn (by rw [lstN]; exact hm) d
  rwa [lstN] at h
end Go.Proofs.Ytaeodbeodacmaaa
