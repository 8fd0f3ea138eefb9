/- FlatForks walked. -/
import Derived.Test.YtoimmapdkapheaaJJ
import Derived.Test.YtoimmapdkapheaaFOwM
namespace Go.Proofs.Ytoimmapdkapheaa
set_option maxRecDepth 4000
open Go.RowKit

set_option maxRecDepth 100000 in
set_option maxHeartbeats 16000000 in
theorem walk_flatForks (ao : Option Addr) (len cap : Nat) (D : Nat → FDd) (n0 ch pg i0 : Int) (w : World) (hm : len ≤ maxLen) (hL : Lst FDd.cells FDd.ok 10 w ao len D) (hn0 : -9223372036854775808 ≤ n0 ∧ n0 ≤ 9223372036854775807) (hch : -9223372036854775808 ≤ ch ∧ ch ≤ 9223372036854775807) (_ : -9223372036854775808 ≤ pg ∧ pg ≤ 9223372036854775807) (_ : -9223372036854775808 ≤ i0 ∧ i0 ≤ 9223372036854775807) :
    Calls Try.prog 6 #[.slice ao len cap, .int .i64 n0, .int .i64 ch, .int .i64 pg, .int .i64 i0] w fun e w' => e = .returned (.bool true) ∧ Below w.heap.size w w' := by
  have hm' : len ≤ 9223372036854775807 := by unfold maxLen at hm; omega
  have HLst : Hid (Lst FDd.cells FDd.ok 10 w ao len D) := hL
  have HV : Hid (okI n0 ∧ okI ch) := ⟨hn0, hch⟩
  clear hL hm hn0 hch
  go_enter Try.func6, Try.ntmps6
  go_wp2_with fail
  refine (fu_any _).mono ?_
  rintro e w1 ⟨rfl, L1⟩
  go_wp2_with fail
  refine (new_any _).mono ?_
  rintro e w2 ⟨p, rfl, hb⟩
  have HP0 : Hid (Plays w p w2.heap.size (w2.alloc (.cells #[.slice none 0 0] 29))) := (Plays.new hb).base L1
  clear hb L1
  go_wp2_with fail
  generalize w2.heap.size = q at *
  go_loopg [14] 20 (fun gk i W => ∃ j : Nat, gk = 20 - j ∧ j ≤ len ∧ j ≤ 20 ∧ i = .int .i64 j ∧ Hid (Plays w p q W))
  case atStart => exact ⟨0, rfl, Nat.zero_le _, by omega, rfl, HP0⟩
  case round =>
    obtain ⟨j, hgk, hj, hj8, rfl, HB⟩ := hrel
    clear HP0
    have HGK : Hid (gk = 20 - j) := hgk
    clear hgk
    by_cases hlt : j < len ∧ j < 20
    · obtain ⟨h1, h2⟩ := hlt
      have h1z : (j : Int) < (len : Int) := by omega
      have h2z : (j : Int) < 20 := by omega
      obtain ⟨g, off, rfl, hglt, hok, hc⟩ := FDd.lst HLst.out HB.out.frame h1
      generalize D j = d at *
      obtain ⟨c0, c1, c2, c3, c4, c5, c6, c7, c8, c9⟩ := FDd.at hc
      have HOK : Hid d.ok := hok
      clear hglt hc hok
      go_upto_region 9 with fail
      obtain ⟨ao2, n, c2', hn, x0⟩ := HB.out.list
      have hP := pick_any d.what 11 wr HOK.out.1.1 HOK.out.1.2 (by omega) (by omega)
      generalize pickN d.what 11 = m at *
      go_cut [61] from 47 to 61 (fun s40 wx => ∃ b : Bool, s40 = .bool b ∧ wr = wx)
      case first =>
        by_cases h5 : (5 : Int) < (n : Int)
        · by_cases hm2 : (m : Int) < 2
          · go_wp2_with fail
            refine hP.mono ?_
            rintro e w' ⟨rfl, rfl⟩
            go_wp2_with fail
            go_meet
            exact ⟨_, rfl, rfl⟩
          · go_wp2_with fail
            refine hP.mono ?_
            rintro e w' ⟨rfl, rfl⟩
            go_wp2_with fail
            go_meet
            exact ⟨_, rfl, rfl⟩
        · go_wp2_with fail
          go_meet
          exact ⟨_, rfl, rfl⟩
      case rest =>
        obtain ⟨b, rfl, rfl⟩ := hcut
        clear hP x0 hn
        cases b with
        | true =>
          clear c0 c1 c2 c3 c4 c5 c6 c7 c8 c9
          go_wp2
          go_roundg (20 - (j + 1))
          case measure => rw [HGK.out]; omega
          case rel => exact ⟨j + 1, rfl, by omega, by omega, by go_num, HB⟩
        | false =>
          have hdo := HB.out.deed HOK.out
          unfold FDd.arr PlP at hdo
          clear HB
          go_wp2_with fail
          refine hdo.mono ?_
          rintro e w3 ⟨rfl, HR⟩
          clear hdo c0 c1 c2 c3 c4 c5 c6 c7 c8 c9
          go_wp2
          go_roundg (20 - (j + 1))
          case measure => rw [HGK.out]; omega
          case rel => exact ⟨j + 1, rfl, by omega, by omega, by go_num, HR⟩
    · have hx : (¬ (j : Int) < (len : Int)) ∨ ((j : Int) < (len : Int) ∧ ¬ (j : Int) < 20) := by omega
      clear hlt hj hj8
      go_upto_region 7 with fail
      go_cut [44] from 37 to 44 (fun s38 wx => s38 = .bool false ∧ wr = wx)
      case first =>
        clear HB HLst
        rcases hx with hx | ⟨hx, hy⟩
        · go_wp2_with fail
          go_meet
          exact ⟨rfl, rfl⟩
        · go_wp2_with fail
          go_meet
          exact ⟨rfl, rfl⟩
      case rest =>
        obtain ⟨rfl, rfl⟩ := hcut
        clear hx HGK
        obtain ⟨A, hB⟩ := HB.out.fl
        obtain ⟨c1, A1, hd1⟩ := fork_ex A n0 ch
        have hs := hB.fcall fun F h => fork_any h HV.out.1 hd1
        clear hB HB
        by_cases hc1 : c1 = 0
        · subst hc1
          obtain ⟨s, hne, hs1, hs2⟩ := fork_two hd1
          have HA : Hid (A1 n0 = some s ∧ A1 ch = some s ∧ n0 ≠ ch) := ⟨hs1, hs2, hne⟩
          rw [errV0] at hs
          go_wp2_with fail
          refine hs.mono ?_
          rintro e w3 ⟨rfl, H3⟩
          clear hs hd1 hs1 hs2 hne
          have hs := H3.out.fareas HV.out.1
          rw [HA.out.1] at hs
          unfold ArP at hs
          simp only at hs
          go_wp2_with fail
          refine hs.mono ?_
          rintro e w4 ⟨⟨a4, k4, M, hM, hM64, rfl, HR4, HB4⟩, _⟩
          have H4 : Hid (Bec (fun _ => False) w (RowF (.slice a4 M.length k4) M p A1) w4) := H3.out.rnew HR4.out HB4.out
          have HM : Hid (CanA s.f M ∧ M.length ≤ maxLen) := ⟨hM, by unfold maxLen; omega⟩
          clear hs H3 HR4 HB4 hM hM64
          have hs := H4.out.rareas HV.out.2
          rw [HA.out.2.1] at hs
          unfold ArP at hs
          simp only at hs
          go_wp2_with fail
          refine hs.mono ?_
          rintro e w5 ⟨⟨a5, k5, M', hM', _, rfl, HR5, _⟩, H5⟩
          obtain rfl := HM.out.1.uniq hM'
          have HS5 : Hid (Sn rAAr w5 a5 M) := HR5.out.sn
          clear hs H4 HR5 hM'
          obtain ⟨k1, hat⟩ := at_ex A1 n0 pg i0
          have hat2 := two_at HA.out.1 HA.out.2.1 hat
          have hk1 : (k1 == k1) = true := by simp
          have hk2 : (k1 != k1) = false := by simp
          have hce := fun w => code_err k1 w hat.code
          have HAT : Hid (AtD A1 n0 pg i0 k1 ∧ AtD A1 ch pg i0 k1 ∧ ldV A1 ch pg i0 k1 = ldV A1 n0 pg i0 k1) := ⟨hat, hat2⟩
          clear hat hat2
          have hs := H5.out.rload HV.out.1 HAT.out.1
          obtain ⟨x, hx⟩ : ∃ x, ldV A1 n0 pg i0 k1 = x := ⟨_, rfl⟩
          obtain ⟨ev, hev⟩ : ∃ ev, errV k1 = ev := ⟨_, rfl⟩
          have HXE : Hid (ldV A1 n0 pg i0 k1 = x ∧ errV k1 = ev) := ⟨hx, hev⟩
          rw [hx, hev] at hs
          rw [hev] at hce
          have hx1 : (x == x) = true := by simp
          have hx2 : (x != x) = false := by simp
          clear hx hev
          go_wp2_with fail
          refine hs.mono ?_
          rintro e w6 ⟨rfl, H6, HB6⟩
          have HS6 : Hid (Sn rAAr w6 a5 M) := HS5.out.below HB6.out
          clear hs H5 HS5 HB6
          have hs := H6.out.rload HV.out.2 HAT.out.2.1
          rw [HAT.out.2.2, HXE.out.1, HXE.out.2] at hs
          go_wp2_with fail
          refine hs.mono ?_
          rintro e w7 ⟨rfl, H7, HB7⟩
          have hsm := same_self (c1 := k4) (c2 := k5) H7.out.rsn (HS6.out.below HB7.out) HM.out.2
          clear hs H6 HS6 HB7
          go_wp2_with fail
          refine hsm.mono ?_
          rintro e w8 ⟨rfl, hb8⟩
          have H8 : Hid (Bec (fun _ => False) w (RowF (.slice a4 M.length k4) M p A1) w8) := H7.out.below hb8
          clear hsm hb8 H7
          go_wp2_with fail
          refine (hce _).mono ?_
          rintro e w9 ⟨rfl, hw⟩
          obtain rfl := hw.symm
          clear hw
          go_wp2_with fail
          refine (hce _).mono ?_
          rintro e w9 ⟨rfl, hw⟩
          obtain rfl := hw.symm
          clear hw
          obtain ⟨c2, A2, hd2⟩ := lay_ex A1 ch 0 4096 none
          have h2 := lay_ne HA.out.1 HA.out.2.1 HA.out.2.2 hd2
          have hs := H8.out.rcall fun F h => unmap_any h HV.out.2 hd2
          obtain ⟨e1, e2, e3⟩ := end_ne h2.1 h2.2 HA.out.2.2
          have HE : Hid (EndD A2 ch 0 (A2.set ch none) ∧ A2.set ch none n0 = some s ∧ A2.set ch none ch = none) := ⟨e1, e2, e3⟩
          clear hd2 h2 e1 e2 e3
          go_wp2_with fail
          refine hs.mono ?_
          rintro e w10 ⟨rfl, H10⟩
          clear hs H8
          have hs := H10.out.rcall fun F h => end_any h HV.out.2 HE.out.1
          rw [errV0] at hs
          go_wp2_with fail
          refine hs.mono ?_
          rintro e w11 ⟨rfl, H11⟩
          clear hs H10
          have hs := H11.out.rareas HV.out.1
          rw [HE.out.2.1] at hs
          unfold ArP at hs
          simp only at hs
          go_wp2_with fail
          refine hs.mono ?_
          rintro e w12 ⟨⟨a6, k6, M', hM', _, rfl, HR6, _⟩, H12⟩
          obtain rfl := HM.out.1.uniq hM'
          have HS12 : Hid (Sn rAAr w12 a6 M) := HR6.out.sn
          clear hs H11 HR6 hM'
          have hat3 := two_at HA.out.1 HE.out.2.1 HAT.out.1
          have hs := H12.out.rload HV.out.1 hat3.1
          rw [hat3.2, HXE.out.1, HXE.out.2] at hs
          clear hat3
          go_wp2_with fail
          refine hs.mono ?_
          rintro e w13 ⟨rfl, H13, HB13⟩
          have HS13 : Hid (Sn rAAr w13 a6 M) := HS12.out.below HB13.out
          clear hs H12 HS12 HB13
          have hs := H13.out.rareas HV.out.2
          rw [HE.out.2.2] at hs
          unfold ArP at hs
          simp only at hs
          go_wp2_with fail
          refine hs.mono ?_
          rintro e w14 ⟨⟨rfl, HB14⟩, H14⟩
          have hsm := same_self (c1 := k4) (c2 := k6) H14.out.rsn (HS13.out.below HB14.out) HM.out.2
          have hq := fun w => eq_err 3 w
          clear hs H13 HS13 HB14
          go_wp2_with fail
          refine hsm.mono ?_
          rintro e w15 ⟨rfl, hb15⟩
          have H15 : Hid (Below w.heap.size w w15) := (H14.out.below hb15).frame
          clear hsm hb15 H14
          go_wp2_with fail
          refine (hce _).mono ?_
          rintro e w9 ⟨rfl, hw⟩
          obtain rfl := hw.symm
          clear hw
          go_wp2_with fail
          refine (hce _).mono ?_
          rintro e w9 ⟨rfl, hw⟩
          obtain rfl := hw.symm
          clear hw
          go_wp2
          go_ret
          exact ⟨rfl, H15.out⟩
        · rw [errV_ne hc1] at hs
          go_wp2_with fail
          refine hs.mono ?_
          rintro e w3 ⟨rfl, H3⟩
          clear hs
          go_wp2
          go_ret
          exact ⟨rfl, H3.out.frame⟩
end Go.Proofs.Ytoimmapdkapheaa
