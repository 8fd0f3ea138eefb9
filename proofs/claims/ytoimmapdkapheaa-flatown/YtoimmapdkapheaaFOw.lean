/- FlatOwn walked. -/
import Derived.Test.YtoimmapdkapheaaJJ
import Derived.Test.YtoimmapdkapheaaFOwM
namespace Go.Proofs.Ytoimmapdkapheaa
set_option maxRecDepth 4000
open Go.RowKit

set_option maxRecDepth 100000 in
set_option maxHeartbeats 16000000 in
theorem walk_flatOwn (ao : Option Addr) (len cap : Nat) (D : Nat → FDd) (n0 pg i0 v0 : Int) (r : ARt) (w : World) (hm : len ≤ maxLen) (hL : Lst FDd.cells FDd.ok 10 w ao len D) (hn0 : -9223372036854775808 ≤ n0 ∧ n0 ≤ 9223372036854775807) (_ : -9223372036854775808 ≤ pg ∧ pg ≤ 9223372036854775807) (_ : -9223372036854775808 ≤ i0 ∧ i0 ≤ 9223372036854775807) (hv0 : 0 ≤ v0 ∧ v0 ≤ 18446744073709551615) (_ : r.ok) :
    Calls Try.prog 4 #[.slice ao len cap, .int .i64 n0, .int .i64 pg, .int .i64 i0, .int .u64 v0, .agg r.cells.toArray] w fun e w' => e = .returned (.bool true) ∧ Below w.heap.size w w' := by
  have hm' : len ≤ 9223372036854775807 := by unfold maxLen at hm; omega
  have HLst : Hid (Lst FDd.cells FDd.ok 10 w ao len D) := hL
  obtain ⟨v, rfl⟩ : ∃ v : Nat, v0 = v := ⟨v0.toNat, by omega⟩
  have HV : Hid (v < 18446744073709551616 ∧ okI n0) := ⟨by omega, hn0⟩
  obtain ⟨rw_, rx⟩ := r
  have HW : Hid (Below w.heap.size w (w.alloc (.cells #[.bool rw_, .bool rx] 31))) := new_below _ _
  have HLR : Hid (Laid (w.alloc (.cells #[.bool rw_, .bool rx] 31)) w.heap.size 31 #[.bool rw_, .bool rx]) := Laid.new _ _ _
  clear hL hm hv0 hn0
  unfold ARt.cells
  simp only
  go_enter Try.func4, Try.ntmps4
  go_upto_region 1 with fail
  go_name_world W0 hW0
  rw [hW0] at HW HLR
  clear hW0
  go_wp2_with fail
  refine (fu_any _).mono ?_
  rintro e w1 ⟨rfl, L1⟩
  go_wp2_with fail
  refine (new_any _).mono ?_
  rintro e w2 ⟨p, rfl, hb⟩
  have HP0 : Hid (Plays W0 p w2.heap.size (w2.alloc (.cells #[.slice none 0 0] 29))) := (Plays.new hb).base L1
  clear hb L1
  go_wp2_with fail
  generalize w2.heap.size = q at *
  go_loopg [16] 20 (fun gk i W => ∃ j : Nat, gk = 20 - j ∧ j ≤ len ∧ j ≤ 20 ∧ i = .int .i64 j ∧ Hid (Plays W0 p q W))
  case atStart => exact ⟨0, rfl, Nat.zero_le _, by omega, rfl, HP0⟩
  case round =>
    obtain ⟨j, hgk, hj, hj8, rfl, HB⟩ := hrel
    clear HP0
    have HGK : Hid (gk = 20 - j) := hgk
    clear hgk
    by_cases hlt : j < len ∧ j < 20
    · obtain ⟨h1, h2⟩ := hlt
      have h1z : (j : Int) < (len : Int) := by omega
      have h2z : (j : Int) < 20 := by omega
      obtain ⟨g, off, rfl, hglt, hok, hc⟩ := FDd.lst HLst.out (below_call' HW.out HB.out.frame) h1
      generalize D j = d at *
      obtain ⟨c0, c1, c2, c3, c4, c5, c6, c7, c8, c9⟩ := FDd.at hc
      have HOK : Hid d.ok := hok
      clear hglt hc hok
      go_upto_region 9 with fail
      obtain ⟨ao2, n, c2', hn, x0⟩ := HB.out.list
      have hP := pick_any d.what 11 wr HOK.out.1.1 HOK.out.1.2 (by omega) (by omega)
      generalize pickN d.what 11 = m at *
      go_cut [55] from 41 to 55 (fun s40 wx => ∃ b : Bool, s40 = .bool b ∧ wr = wx)
      case first =>
        by_cases h5 : (5 : Int) < (n : Int)
        · by_cases hm2 : (m : Int) < 2
          · go_wp2_with fail
            refine hP.mono ?_
            rintro e w' ⟨rfl, rfl⟩
            go_wp2_with fail
            go_meet
            exact ⟨_, rfl, rfl⟩
          · go_wp2_with fail
            refine hP.mono ?_
            rintro e w' ⟨rfl, rfl⟩
            go_wp2_with fail
            go_meet
            exact ⟨_, rfl, rfl⟩
        · go_wp2_with fail
          go_meet
          exact ⟨_, rfl, rfl⟩
      case rest =>
        obtain ⟨b, rfl, rfl⟩ := hcut
        clear hP x0 hn
        cases b with
        | true =>
          clear c0 c1 c2 c3 c4 c5 c6 c7 c8 c9
          go_wp2
          go_roundg (20 - (j + 1))
          case measure => rw [HGK.out]; omega
          case rel => exact ⟨j + 1, rfl, by omega, by omega, by go_num, HB⟩
        | false =>
          have hdo := HB.out.deed HOK.out
          unfold FDd.arr PlP at hdo
          clear HB
          go_wp2_with fail
          refine hdo.mono ?_
          rintro e w3 ⟨rfl, HR⟩
          clear hdo c0 c1 c2 c3 c4 c5 c6 c7 c8 c9
          go_wp2
          go_roundg (20 - (j + 1))
          case measure => rw [HGK.out]; omega
          case rel => exact ⟨j + 1, rfl, by omega, by omega, by go_num, HR⟩
    · have hx : (¬ (j : Int) < (len : Int)) ∨ ((j : Int) < (len : Int) ∧ ¬ (j : Int) < 20) := by omega
      clear hlt hj hj8
      go_upto_region 7 with fail
      go_cut [38] from 31 to 38 (fun s38 wx => s38 = .bool false ∧ wr = wx)
      case first =>
        clear HB HLst
        rcases hx with hx | ⟨hx, hy⟩
        · go_wp2_with fail
          go_meet
          exact ⟨rfl, rfl⟩
        · go_wp2_with fail
          go_meet
          exact ⟨rfl, rfl⟩
      case rest =>
        obtain ⟨rfl, rfl⟩ := hcut
        clear hx HGK
        obtain ⟨A, hB⟩ := HB.out.fl
        have HB1 : Hid (Bec (fun _ => False) W0 (FlT p A) wr) := hB
        obtain ⟨c1, A1, hd1⟩ := store_ex A n0 pg i0 v
        have hs := hB.fcall fun F h => stored_any h HV.out.2 HV.out.1 hd1
        clear hB HB
        by_cases hc1 : c1 = 0
        · subst hc1
          obtain ⟨ho, hi0, hi8⟩ := own_store hd1
          rw [errV0] at hs
          go_wp2_with fail
          refine hs.mono ?_
          rintro e w3 ⟨rfl, H3⟩
          clear hs HB1 hd1
          have hpg : 0 ≤ pg ∧ pg < 4096 := by
            obtain ⟨s, hs, hf, -⟩ := ho
            obtain ⟨t, ht⟩ := Option.ne_none_iff_exists'.1 hf
            exact page_in H3.out.fok hs ht
          have hpw : IntKind.i64.wrap (pg + 1) = pg + 1 := IntWalk.i64_in _ (by omega)
          have HI : Hid (0 ≤ i0 ∧ i0 < 8 ∧ 0 ≤ pg ∧ pg < 4096) := ⟨hi0, hi8, hpg⟩
          obtain ⟨x0, x1⟩ : w3.cell? ⟨w.heap.size, 0, none⟩ = some (.bool rw_) ∧ w3.cell? ⟨w.heap.size, 1, none⟩ = some (.bool rx) := by
            have := HLR.out.below H3.out.frame
            exact ⟨this.cell 0, this.cell 1⟩
          obtain ⟨c2, A2, hd2⟩ := chg_ex A1 n0 pg (pg + 1) (fun p => (rw_, rx, p.2.2))
          have hs := H3.out.fcall fun F h => protect_any h HV.out.2 hd2
          obtain ⟨hc2, ho2⟩ := own_protect ho hpg hd2
          have HO2 : Hid (OwnS A2 n0 pg i0 v) := ho2
          clear ho ho2 hd2 hi0 hi8 hpg
          go_wp2_with fail
          refine hs.mono ?_
          rintro e w4 ⟨rfl, H4⟩
          clear hs x0 x1 H3
          obtain ⟨c3, A3, hd3⟩ := fork_ex A2 n0 255
          have hs := H4.out.fcall fun F h => fork_any h HV.out.2 hd3
          have ho3 := own_fork HO2.out hd3
          generalize hev2 : errV c2 = ev2 at *
          generalize hev3 : errV c3 = ev3 at hs
          have HE2 : Hid ((c2 = 0 ∨ c2 = 5) ∧ errV c2 = ev2) := ⟨hc2, hev2⟩
          clear hd3 hc2 hev2
          go_wp2_with fail
          refine hs.mono ?_
          rintro e w5 ⟨rfl, H5⟩
          clear hs H4
          go_upto_region 16 with fail
          go_cut [83] from 82 to 83 (fun s83 wx => (∃ b : Bool, s83 = .bool b ∧ (b = true → c3 = 0) ∧ (b = false → c3 ≠ 0)) ∧ w5 = wx)
          case first =>
            clear ho3 HE2 H5 HO2 HI
            by_cases h0 : c3 = 0
            · subst h0
              obtain rfl : ev3 = .nilIface := hev3.symm
              go_wp2_with fail
              go_meet
              exact ⟨⟨true, rfl, by simp, by simp⟩, rfl⟩
            · rw [errV_ne h0] at hev3
              subst hev3
              go_wp2_with fail
              go_meet
              exact ⟨⟨false, rfl, by simp, by first | exact fun _ => h0 | simpa using h0⟩, rfl⟩
          case rest =>
            obtain ⟨⟨b, rfl, hb1, hb2⟩, rfl⟩ := hcut
            apply_assumption
            clear hev3
            go_cut [] from 84 to 91 (fun wx => ∃ A4, OwnS A4 n0 pg i0 v ∧ Hid (Bec (fun _ => False) W0 (FlT p A4) wx))
            case first =>
              cases b with
              | true =>
                obtain rfl := hb1 rfl
                rcases ho3 with ⟨_, hne, ho3⟩ | ⟨hc3, _⟩
                · have HO3 : Hid (OwnS A3 n0 pg i0 v ∧ n0 ≠ 255) := ⟨ho3, hne⟩
                  clear ho3 hne hb1 hb2
                  obtain ⟨u, hu, hul⟩ : ∃ u : Nat, IntKind.u64.wrap ((v : Int) + 1) = u ∧ u < 18446744073709551616 := ⟨(((v : Int) + 1) % 18446744073709551616).toNat, by rw [IntKind.wrap_u64]; omega, by omega⟩
                  obtain ⟨c4, A4, hd4⟩ := store_ex A3 255 pg i0 u
                  have hs := H5.out.fcall fun F h => stored_any h (⟨by omega, by omega⟩ : okI 255) hul hd4
                  have HO4 : Hid (OwnS A4 n0 pg i0 v) := own_other HO3.out.1 HO3.out.2 hd4
                  clear hd4 hul
                  go_wp2_with fail
                  refine hs.mono ?_
                  rintro e w6 ⟨rfl, H6⟩
                  clear hs H5
                  obtain ⟨c5, A5, hd5⟩ := end_ex A4 255
                  have hs := H6.out.fcall fun F h => end_any h (⟨by omega, by omega⟩ : okI 255) hd5
                  have HO5 : Hid (OwnS A5 n0 pg i0 v) := own_end HO4.out HO3.out.2 hd5
                  clear hd5 hu
                  go_wp2_with fail
                  refine hs.mono ?_
                  rintro e w7 ⟨rfl, H7⟩
                  clear hs
                  go_wp2_with fail
                  go_meet
                  exact ⟨_, HO5.out, H7⟩
                · exact absurd rfl hc3
              | false =>
                rcases ho3 with ⟨hc3, _, _⟩ | ⟨_, rfl⟩
                · exact absurd hc3 (hb2 rfl)
                · clear hb1 hb2
                  go_wp2_with fail
                  go_meet
                  exact ⟨_, HO2.out, H5⟩
            case rest =>
              obtain ⟨A4, ho4, H7⟩ := hcut
              clear ho3 HO2 H5 hb1 hb2
              have hs := H7.out.fload HV.out.2 (own_at ho4 HI.out.1 HI.out.2.1)
              rw [errV0, own_ld ho4] at hs
              go_wp2_with fail
              refine hs.mono ?_
              rintro e w8 ⟨rfl, H8⟩
              clear hs H7
              obtain ⟨x0, x1⟩ : w8.cell? ⟨w.heap.size, 0, none⟩ = some (.bool rw_) ∧ w8.cell? ⟨w.heap.size, 1, none⟩ = some (.bool rx) := by
                have := HLR.out.below H8.out.frame
                exact ⟨this.cell 0, this.cell 1⟩
              obtain ⟨c6, A6, hd6⟩ := lay_ex A4 n0 pg (pg + 1) (some (rw_, rx, false))
              have hs := H8.out.fcall fun F h => map_any h HV.out.2 hd6
              have h6 := own_map ho4 HI.out.2.2 hd6
              have hq := fun w => eq_err 5 w
              have hvv : ((v : Int) == (v : Int)) = true := by simp
              clear hd6 ho4
              rcases h6 with ⟨rfl, ho6⟩ | ⟨rfl, ho6⟩
              · rw [errV_ne (by decide)] at hs
                go_wp2_with fail
                refine hs.mono ?_
                rintro e w9 ⟨rfl, H9⟩
                have hs := H9.out.fload HV.out.2 (own_at ho6 HI.out.1 HI.out.2.1)
                rw [errV0, own_ld ho6] at hs
                clear ho6 x0 x1 H8
                go_wp2_with fail
                refine hs.mono ?_
                rintro e w10 ⟨rfl, H10⟩
                clear hs H9
                obtain ⟨rfl | rfl, hev⟩ := HE2.out
                · obtain rfl : ev2 = .nilIface := hev.symm
                  go_wp2
                  go_ret
                  exact ⟨rfl, below_call' HW.out H10.out.frame⟩
                · rw [errV_ne (by decide)] at hev
                  subst hev
                  go_wp2
                  go_ret
                  exact ⟨rfl, below_call' HW.out H10.out.frame⟩
              · rw [errV0] at hs
                go_wp2_with fail
                refine hs.mono ?_
                rintro e w9 ⟨rfl, H9⟩
                have hs := H9.out.fload HV.out.2 (own_at ho6 HI.out.1 HI.out.2.1)
                rw [errV0, show ldV A6 n0 pg i0 0 = 0 from own_ld ho6] at hs
                clear ho6 x0 x1 H8
                go_wp2_with fail
                refine hs.mono ?_
                rintro e w10 ⟨rfl, H10⟩
                clear hs H9
                obtain ⟨rfl | rfl, hev⟩ := HE2.out
                · obtain rfl : ev2 = .nilIface := hev.symm
                  go_wp2
                  go_ret
                  exact ⟨rfl, below_call' HW.out H10.out.frame⟩
                · rw [errV_ne (by decide)] at hev
                  subst hev
                  go_wp2
                  go_ret
                  exact ⟨rfl, below_call' HW.out H10.out.frame⟩
        · rw [errV_ne hc1] at hs
          go_wp2_with fail
          refine hs.mono ?_
          rintro e w3 ⟨rfl, H3⟩
          clear hs
          go_wp2
          go_ret
          exact ⟨rfl, below_call' HW.out H3.out.frame⟩
end Go.Proofs.Ytoimmapdkapheaa
