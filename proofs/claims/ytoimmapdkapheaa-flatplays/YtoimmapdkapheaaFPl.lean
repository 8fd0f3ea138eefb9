/- FlatPlays walked. -/
import Derived.Test.YtoimmapdkapheaaJJ
namespace Go.Proofs.Ytoimmapdkapheaa
set_option maxRecDepth 4000
open Go.RowKit

set_option maxRecDepth 100000 in
set_option maxHeartbeats 8000000 in
theorem walk_flatPlays (ao : Option Addr) (len cap : Nat) (D : Nat → FDd) (w : World) (hm : len ≤ maxLen) (hL : Lst FDd.cells FDd.ok 10 w ao len D) :
    Calls Try.prog 3 #[.slice ao len cap] w fun e w' => e = .returned (.bool true) ∧ Below w.heap.size w w' := by
  have hm' : len ≤ 9223372036854775807 := by unfold maxLen at hm; omega
  have HLst : Hid (Lst FDd.cells FDd.ok 10 w ao len D) := hL
  clear hL hm
  go_enter Try.func3, Try.ntmps3
  go_wp2_with fail
  refine (fu_any _).mono ?_
  rintro e w1 ⟨rfl, L1⟩
  go_wp2_with fail
  refine (new_any _).mono ?_
  rintro e w2 ⟨p, rfl, hb⟩
  have HP0 : Hid (Plays w p w2.heap.size (w2.alloc (.cells #[.slice none 0 0] 29))) := (Plays.new hb).base L1
  clear hb L1
  go_wp2_with fail
  generalize w2.heap.size = q at *
  go_loopg [6] 40 (fun gk i W => ∃ j : Nat, gk = 40 - j ∧ j ≤ len ∧ j ≤ 40 ∧ i = .int .i64 j ∧ Hid (Plays w p q W))
  case atStart => exact ⟨0, rfl, Nat.zero_le _, by omega, rfl, HP0⟩
  case round =>
    obtain ⟨j, hgk, hj, hj8, rfl, HB⟩ := hrel
    clear HP0
    have HGK : Hid (gk = 40 - j) := hgk
    clear hgk
    by_cases hlt : j < len ∧ j < 40
    · obtain ⟨h1, h2⟩ := hlt
      have h1z : (j : Int) < (len : Int) := by omega
      have h2z : (j : Int) < 40 := by omega
      obtain ⟨g, off, rfl, hglt, hok, hc⟩ := FDd.lst HLst.out HB.out.frame h1
      generalize D j = d at *
      obtain ⟨c0, c1, c2, c3, c4, c5, c6, c7, c8, c9⟩ := FDd.at hc
      have HD : Hid (PlD w wr.heap.size d p q (wr.alloc (.cells d.arr 34))) := HB.out.box d
      have HOK : Hid d.ok := hok
      unfold FDd.arr at HD
      clear HB hglt hc hok
      go_upto_region 10 with fail
      go_name_world W0 hW0
      have HD0 : Hid (PlD w wr.heap.size d p q W0) := by
        rw [← hW0]
        exact HD.out
      clear hW0 HD c0 c1 c2 c3 c4 c5 c6 c7 c8 c9
      generalize wr.heap.size = db at *
      obtain ⟨ao2, n, c2, hn, x0⟩ := HD0.out.drop.list
      have y0 := (deed_cells HD0.out.laid).1
      have hP := pick_any d.what 11 W0 HOK.out.1.1 HOK.out.1.2 (by omega) (by omega)
      generalize pickN d.what 11 = m at *
      go_cut [40] from 29 to 60 (fun s40 wx => ∃ b : Bool, s40 = .bool b ∧ W0 = wx)
      case first =>
        by_cases h5 : (5 : Int) < (n : Int)
        · by_cases hm2 : (m : Int) < 2
          · go_wp2_with fail
            refine hP.mono ?_
            rintro e w' ⟨rfl, rfl⟩
            go_wp2_with fail
            go_meet
            exact ⟨_, rfl, rfl⟩
          · go_wp2_with fail
            refine hP.mono ?_
            rintro e w' ⟨rfl, rfl⟩
            go_wp2_with fail
            go_meet
            exact ⟨_, rfl, rfl⟩
        · go_wp2_with fail
          go_meet
          exact ⟨_, rfl, rfl⟩
      case rest =>
        obtain ⟨b, rfl, rfl⟩ := hcut
        clear hP x0 y0 hn
        cases b with
        | true =>
          have HR : Hid (Plays w p q W0) := HD0.out.drop
          clear HD0
          go_wp2
          go_roundg (40 - (j + 1))
          case measure => rw [HGK.out]; omega
          case rel => exact ⟨j + 1, rfl, by omega, by omega, by go_num, HR⟩
        | false =>
          have hdo := HD0.out.deed HOK.out
          obtain ⟨y0, y1, y2, y3, y4, y5, y6, y7, y8, y9⟩ := deed_cells HD0.out.laid
          unfold FDd.arr at hdo
          clear HD0
          go_wp2_with fail
          refine hdo.mono ?_
          rintro e w3 ⟨rfl, HD3⟩
          clear hdo y0 y1 y2 y3 y4 y5 y6 y7 y8 y9
          obtain ⟨-, -, -, y3, y4, -⟩ := deed_cells HD3.out.laid
          have hS := HD3.out.drop.same3
          have HD3' : Hid (Plays w p q w3) := HD3.out.drop
          clear HD3
          go_wp2_with fail
          refine (hS _ _ _ _ _).mono ?_
          rintro e w4 ⟨rfl, HR⟩
          clear hS y3 y4 HD3'
          go_wp2
          go_roundg (40 - (j + 1))
          case measure => rw [HGK.out]; omega
          case rel => exact ⟨j + 1, rfl, by omega, by omega, by go_num, HR⟩
    · have hx : (¬ (j : Int) < (len : Int)) ∨ ((j : Int) < (len : Int) ∧ ¬ (j : Int) < 40) := by omega
      clear hlt hj hj8
      have HL : Hid (Below w.heap.size w wr) := HB.out.frame
      clear HB
      rcases hx with hx | ⟨hx, hy⟩
      · go_wp2
        go_ret
        exact ⟨rfl, HL.out⟩
      · go_wp2
        go_ret
        exact ⟨rfl, HL.out⟩
end Go.Proofs.Ytoimmapdkapheaa
