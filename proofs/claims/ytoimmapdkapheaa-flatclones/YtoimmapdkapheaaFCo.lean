/- FlatClones walked. -/
import Derived.Test.YtoimmapdkapheaaFClM
namespace Go.Proofs.Ytoimmapdkapheaa
set_option maxRecDepth 4000
open Go.RowKit

set_option maxRecDepth 100000 in
set_option maxHeartbeats 16000000 in
theorem walk_flatClones (ao : Option Addr) (len cap : Nat) (D : Nat → FDd) (ao2_ : Option Addr) (len2 cap2 : Nat) (D2 : Nat → FDd) (w : World) (hm : len ≤ maxLen) (hL : Lst FDd.cells FDd.ok 10 w ao len D) (hm2 : len2 ≤ maxLen) (hL2 : Lst FDd.cells FDd.ok 10 w ao2_ len2 D2) :
    Calls Try.prog 5 #[.slice ao len cap, .slice ao2_ len2 cap2] w fun e w' => e = .returned (.bool true) ∧ Below w.heap.size w w' := by
  have hm' : len ≤ 9223372036854775807 := by unfold maxLen at hm; omega
  have hm2' : len2 ≤ 9223372036854775807 := by unfold maxLen at hm2; omega
  have HLst : Hid (Lst FDd.cells FDd.ok 10 w ao len D) := hL
  have HLst2 : Hid (Lst FDd.cells FDd.ok 10 w ao2_ len2 D2) := hL2
  clear hL hm hL2 hm2
  go_enter Try.func5, Try.ntmps5
  go_wp2_with fail
  refine (fu_any _).mono ?_
  rintro e w1 ⟨rfl, L1⟩
  go_wp2_with fail
  refine (new_any _).mono ?_
  rintro e w2 ⟨p, rfl, hb⟩
  have HP0 : Hid (Plays w p w2.heap.size (w2.alloc (.cells #[.slice none 0 0] 29))) := (Plays.new hb).base L1
  clear hb L1
  go_wp2_with fail
  generalize w2.heap.size = q at *
  go_loopg [8] 20 (fun gk i W => ∃ j : Nat, gk = 20 - j ∧ j ≤ len ∧ j ≤ 20 ∧ i = .int .i64 j ∧ Hid (Plays w p q W))
  case atStart => exact ⟨0, rfl, Nat.zero_le _, by omega, rfl, HP0⟩
  case round =>
    obtain ⟨j, hgk, hj, hj8, rfl, HB⟩ := hrel
    clear HP0
    have HGK : Hid (gk = 20 - j) := hgk
    clear hgk
    by_cases hlt : j < len ∧ j < 20
    · obtain ⟨h1, h2⟩ := hlt
      have h1z : (j : Int) < (len : Int) := by omega
      have h2z : (j : Int) < 20 := by omega
      obtain ⟨g, off, rfl, hglt, hok, hc⟩ := FDd.lst HLst.out HB.out.frame h1
      generalize D j = d at *
      obtain ⟨c0, c1, c2, c3, c4, c5, c6, c7, c8, c9⟩ := FDd.at hc
      have HOK : Hid d.ok := hok
      clear hglt hc hok
      go_upto_region 9 with fail
      obtain ⟨ao2, n, c2', hn, x0⟩ := HB.out.list
      have hP := pick_any d.what 11 wr HOK.out.1.1 HOK.out.1.2 (by omega) (by omega)
      generalize pickN d.what 11 = m at *
      go_cut [49] from 35 to 49 (fun s40 wx => ∃ b : Bool, s40 = .bool b ∧ wr = wx)
      case first =>
        by_cases h5 : (5 : Int) < (n : Int)
        · by_cases hm2 : (m : Int) < 2
          · go_wp2_with fail
            refine hP.mono ?_
            rintro e w' ⟨rfl, rfl⟩
            go_wp2_with fail
            go_meet
            exact ⟨_, rfl, rfl⟩
          · go_wp2_with fail
            refine hP.mono ?_
            rintro e w' ⟨rfl, rfl⟩
            go_wp2_with fail
            go_meet
            exact ⟨_, rfl, rfl⟩
        · go_wp2_with fail
          go_meet
          exact ⟨_, rfl, rfl⟩
      case rest =>
        obtain ⟨b, rfl, rfl⟩ := hcut
        clear hP x0 hn
        cases b with
        | true =>
          clear c0 c1 c2 c3 c4 c5 c6 c7 c8 c9
          go_wp2
          go_roundg (20 - (j + 1))
          case measure => rw [HGK.out]; omega
          case rel => exact ⟨j + 1, rfl, by omega, by omega, by go_num, HB⟩
        | false =>
          have hdo := HB.out.deed HOK.out
          unfold FDd.arr PlP at hdo
          clear HB
          go_wp2_with fail
          refine hdo.mono ?_
          rintro e w3 ⟨rfl, HR⟩
          clear hdo c0 c1 c2 c3 c4 c5 c6 c7 c8 c9
          go_wp2
          go_roundg (20 - (j + 1))
          case measure => rw [HGK.out]; omega
          case rel => exact ⟨j + 1, rfl, by omega, by omega, by go_num, HR⟩
    · have hx : (¬ (j : Int) < (len : Int)) ∨ ((j : Int) < (len : Int) ∧ ¬ (j : Int) < 20) := by omega
      clear hlt hj hj8
      go_upto_region 7 with fail
      go_cut [32] from 25 to 32 (fun s38 wx => s38 = .bool false ∧ wr = wx)
      case first =>
        clear HB HLst
        rcases hx with hx | ⟨hx, hy⟩
        · go_wp2_with fail
          go_meet
          exact ⟨rfl, rfl⟩
        · go_wp2_with fail
          go_meet
          exact ⟨rfl, rfl⟩
      case rest =>
        obtain ⟨rfl, rfl⟩ := hcut
        clear hx HGK
        obtain ⟨A, hB⟩ := HB.out
        have HB1 : Hid (Bec (fun _ => False) w ((FlT p A).and (FmT q A)) wr) := hB
        have HAO : Hid A.ok := Bec.fok (show Bec (fun _ => False) w (FlT p A) wr from hB.left)
        obtain ⟨G, hf⟩ := hB.left.see
        have hs := fclone_any hf
        clear hB HB hf
        go_wp2_with fail
        refine hs.mono ?_
        rintro e w3 ⟨po, rfl, hb⟩
        have H3 : Hid (Bec (fun _ => False) w ((FlT po A).and ((FlT p A).and (FmT q A))) w3) := HB1.out.new hb
        clear hs hb HB1
        obtain ⟨G, hf⟩ := H3.out.right.left.see
        have hs := spaces_any hf
        clear hf
        go_wp2_with fail
        refine hs.mono ?_
        rintro e w4 ⟨v4, ss, rfl, hrow, -, hmem, hfew, hb4⟩
        obtain ⟨a4, c4, rfl⟩ := hrow.form
        have H4 : Hid (Bec (fun _ => False) w ((FlT po A).and ((FlT p A).and (FmT q A))) w4) := H3.out.below hb4
        have HR4 : Hid (Row rNm w3.heap.size w4 (.slice a4 ss.length c4) ss) := hrow
        have HME : Hid (∀ n, n ∈ ss ↔ A n ≠ none) := hmem
        have hfew9 : ss.length ≤ 9223372036854775807 := by omega
        clear hs H3 hrow hmem hfew hb4
        go_wp2
        go_loopw [11] (fun iv W => ∃ k : Nat, k ≤ ss.length ∧ iv = .int .i64 k ∧ Hid (Below w4.heap.size w4 W)) (fun iv _ => ss.length - (intOf iv).toNat)
        case atStart => exact ⟨0, Nat.zero_le _, rfl, Below.refl _ _⟩
        case round =>
          obtain ⟨k, hk, rfl, HBk⟩ := hrel
          by_cases hks : k < ss.length
          · have hksz : (k : Int) < (ss.length : Int) := by omega
            have hk0 : (0 : Int) ≤ (k : Int) := by omega
            obtain ⟨g1, rfl, hg1, y0⟩ := nm_at HR4.out hks
            have hAn : A (ss.getD k 0) ≠ none := (HME.out _).1 (by rw [List.getD_eq_getElem?_getD, List.getElem?_eq_getElem hks]; exact List.getElem_mem hks)
            obtain ⟨s, hs⟩ := Option.ne_none_iff_exists'.1 hAn
            have hn := (HAO.out _ _ hs).1
            have y1 := (HBk.out.cell hg1).trans y0
            obtain ⟨G, hf⟩ := (H4.out.below HBk.out).right.left.see
            have hs' := areas_any hf (n := ss.getD k 0) ⟨by have := hn.1; omega, by have := hn.2; omega⟩
            rw [hs] at hs'
            unfold ArP at hs'
            simp only at hs'
            generalize ss.getD k 0 = nn at *
            clear hf hn hs hAn y0 hg1
            go_wp2_with fail
            refine hs'.mono ?_
            rintro e w5 ⟨a5, c5, M, hM, hM64, rfl, HR5, HB5⟩
            have hM9 : M.length ≤ 9223372036854775807 := by omega
            have HR50 : Hid (Row rAAr w4.heap.size w5 (.slice a5 M.length c5) M) := HR5.out.lower HBk.out.size
            have HB50 : Hid (Below w4.heap.size w4 w5) := below_call' HBk.out HB5.out
            clear hs' hM hM64 y1 HR5 HB5
            go_wp2
            go_loopw [14] (fun iv W => ∃ m : Nat, m ≤ M.length ∧ iv = .int .i64 m ∧ Hid (∃ M' : List AAr, M'.length = M.length ∧ Row rAAr w4.heap.size W (.slice a5 M.length c5) M') ∧ Hid (Below w4.heap.size w4 W)) (fun iv _ => M.length - (intOf iv).toNat)
            case atStart => exact ⟨0, Nat.zero_le _, rfl, ⟨M, rfl, HR50.out⟩, HB50⟩
            case round =>
              obtain ⟨m, hm, rfl, HRm, HBm⟩ := hrel
              by_cases hmM : m < M.length
              · have hmz : (m : Int) < (M.length : Int) := by omega
                have hm0 : (0 : Int) ≤ (m : Int) := by omega
                clear HR50 HB50
                obtain ⟨M', hM', hRi⟩ := HRm.out
                obtain ⟨g, rfl, -, hBg, hgw, -, -, hat⟩ := hRi.at (show m < M'.length by omega)
                obtain ⟨p0, p1, p2, p3, p4⟩ := AAr.at hat
                simp only [show rAAr.n = 5 from rfl] at p0 p1 p2 p3 p4
                have hf := fun o => hRi.frozen o
                have HN : Hid (∃ M' : List AAr, M'.length = M.length ∧ Row rAAr w4.heap.size (wr.setCells g (m * 5) [.int .i64 9, .int .i64 0, .bool false, .bool false, .bool false]) (.slice (some ⟨g, 0, none⟩) M.length c5) M') := by
                  have h := hRi.put m ⟨9, 0, false, false, false⟩ (show m < M'.length by omega)
                  exact ⟨M'.set m ⟨9, 0, false, false, false⟩, by rw [List.length_set]; exact hM', h⟩
                have HNB : Hid (Below w4.heap.size w4 (wr.setCells g (m * 5) [.int .i64 9, .int .i64 0, .bool false, .bool false, .bool false])) :=
                  HBm.out.trans ((Keeps.sets _ wr g (m * 5)).below HBm.out.size fun b _ e => by rw [e]; exact hBg)
                clear hat hRi HRm HBm hM'
                go_wp2
                go_roundw
                case rel => exact ⟨m + 1, by omega, by go_num, HN, HNB⟩
                case measure => simp only [intOf]; omega
              · obtain rfl : m = M.length := by omega
                go_wp2
                go_roundw
                case rel => exact ⟨k + 1, by omega, by go_num, HBm⟩
                case measure => simp only [intOf]; omega
          · obtain rfl : k = ss.length := by omega
            have H5 : Hid (Bec (fun _ => False) w ((FlT po A).and ((FlT p A).and (FmT q A))) wr) := H4.out.below HBk.out
            clear H4 HBk HR4 HME HLst
            obtain ⟨v, T, hT, h7⟩ := fmt_open (H5.out.imp (Th.le.trans (and_assoc' _ _ _) (and_comm _ _)))
            obtain ⟨G, hq⟩ := h7.left.see
            have lq := (FmX.box hq).lt
            obtain ⟨a9, cT, rfl⟩ := (FmX.row hq).form
            rw [heads_len] at *
            have hT9 : T.length ≤ 9223372036854775807 := by
              have := hT.few
              omega
            have HG : Hid (∀ k, k < T.length → ∃ g, a9 = some ⟨g, 0, none⟩ ∧ g < wr.heap.size) := fun k hk => by
              obtain ⟨g, c, e, hlt, -⟩ := fm_at hq hk
              cases e
              exact ⟨g, rfl, hlt⟩
            have HT : Hid (FmOk T A) := hT
            have HC0 : Hid (CpS w wr.heap.size q (.slice a9 T.length cT) T ((FlT po A).and (FlT p A)) 0 (wr.alloc (.cells #[.slice none 0 0] 29))) := h7.new (model_new wr)
            clear h7 hq H5 hT
            go_wp2_with fail
            generalize wr.heap.size = nq at *
            go_loopw [16] (fun iv W => ∃ k : Nat, k ≤ T.length ∧ iv = .int .i64 k ∧ Hid (CpS w nq q (.slice a9 T.length cT) T ((FlT po A).and (FlT p A)) k W)) (fun iv _ => T.length - (intOf iv).toNat)
            case atStart => exact ⟨0, Nat.zero_le _, rfl, HC0⟩
            case round =>
              obtain ⟨k, hk, rfl, HC⟩ := hrel
              clear HC0
              by_cases hkT : k < T.length
              · obtain ⟨g, rfl, hg⟩ := HG.out k hkT
                obtain ⟨v', T', hT', h9⟩ := fmt_open HC.out
                obtain ⟨G, hv'⟩ := h9.left.see
                obtain ⟨a8, c8, rfl⟩ := (FmX.row hv').form
                rw [heads_len] at *
                have hcc := clc_of h9.left.see h9.right.left.see hkT (show Value.ownBlock _ = some g from rfl)
                have hcl := fun W1 hW => cl_copy (W1 := W1) h9 hT' HT.out hkT (show Value.ownBlock _ = some g from rfl) (by omega) (by omega) hW
                have hkz : (k : Int) < (T.length : Int) := by omega
                have hk0 : (0 : Int) ≤ (k : Int) := by omega
                unfold ClP at hcl
                generalize (T.getD k zT).1 = x at hcc hcl
                obtain ⟨xn, gp0, cp0, gw0, cw0⟩ := x
                unfold ClC HdC SpV.vp SpV.vw at hcc hcl
                simp only at hcc hcl
                have x0 := hcc.2.1
                generalize T'.length = n8 at *
                clear h9 hv' hT' HC
                go_wp2_with fail
                refine wp_region_X (fun w' => w'.cell? ⟨nq, 0, none⟩ = some (.slice a8 n8 c8) ∧ w'.cell? ⟨q, 0, none⟩ = some (.slice (some ⟨g, 0, none⟩) T.length cT) ∧ w'.cell? ⟨g, k * 3, none⟩ = some (.int .i64 xn) ∧ w'.cell? ⟨g, k * 3 + 1, none⟩ = some (.slice (some ⟨gp0, 0, none⟩) 4096 cp0) ∧ w'.cell? ⟨g, k * 3 + 2, none⟩ = some (.slice (some ⟨gw0, 0, none⟩) 4096 cw0)) [25] (by kernel_rfl) ?_
                have hHeld : wr.drew.cell? ⟨nq, 0, none⟩ = some (.slice a8 n8 c8) ∧ wr.drew.cell? ⟨q, 0, none⟩ = some (.slice (some ⟨g, 0, none⟩) T.length cT) ∧ wr.drew.cell? ⟨g, k * 3, none⟩ = some (.int .i64 xn) ∧ wr.drew.cell? ⟨g, k * 3 + 1, none⟩ = some (.slice (some ⟨gp0, 0, none⟩) 4096 cp0) ∧ wr.drew.cell? ⟨g, k * 3 + 2, none⟩ = some (.slice (some ⟨gw0, 0, none⟩) 4096 cw0) := hcc
                clear hcc x0
                refine wpAnyX_take (i := 0) (v := ?v0) rfl (by kernel_rfl) (by kernel_rfl) (by kernel_rfl) (by kernel_rfl) (by kernel_rfl) (fun _ _ _ h => h) (Or.inl ⟨by rfl, ?hy0⟩) hHeld ?rest0
                case hy0 => intro w hSw; (try dsimp only at hSw); go_simp; try with_reducible rfl
                case rest0 =>
                simp only [Act.put, List.setIfInBounds_toArray, List.set_cons_zero, List.set_cons_succ, List.getElem_toArray, List.getElem_cons_zero]
                refine wpAnyX_take (i := 1) (v := ?v1) rfl (by kernel_rfl) (by kernel_rfl) (by kernel_rfl) (by kernel_rfl) (by kernel_rfl) (fun _ _ _ h => h) (Or.inl ⟨by rfl, ?hy1⟩) hHeld ?rest1
                case hy1 => intro w hSw; (try dsimp only at hSw); go_simp; try with_reducible rfl
                case rest1 =>
                simp only [Act.put, List.setIfInBounds_toArray, List.set_cons_zero, List.set_cons_succ, List.getElem_toArray, List.getElem_cons_zero, List.getElem_cons_succ]
                refine wpAnyX_take (i := 2) (v := ?v2) rfl (by kernel_rfl) (by kernel_rfl) (by kernel_rfl) (by kernel_rfl) (by kernel_rfl) (fun _ _ _ h => h) (Or.inl ⟨by rfl, ?hy2⟩) hHeld ?rest2
                case hy2 => intro w hSw; (try dsimp only at hSw); go_simp; try with_reducible rfl
                case rest2 =>
                simp only [Act.put, List.setIfInBounds_toArray, List.set_cons_zero, List.set_cons_succ, List.getElem_toArray, List.getElem_cons_zero, List.getElem_cons_succ]
                refine wpAnyX_take (i := 3) (v := ?v3) rfl (by kernel_rfl) (by kernel_rfl) (by kernel_rfl) (by kernel_rfl) (by kernel_rfl) (fun _ _ _ h => h) (Or.inl ⟨by rfl, ?hy3⟩) hHeld ?rest3
                case hy3 => intro w hSw; (try dsimp only at hSw); go_simp; try with_reducible rfl
                case rest3 =>
                simp only [Act.put, List.setIfInBounds_toArray, List.set_cons_zero, List.set_cons_succ, List.getElem_toArray, List.getElem_cons_zero, List.getElem_cons_succ]
                refine wpAnyX_take (i := 4) (v := ?v4) rfl (by kernel_rfl) (by kernel_rfl) (by kernel_rfl) (by kernel_rfl) (by kernel_rfl) (fun _ _ _ h => h) (Or.inl ⟨by rfl, ?hy4⟩) hHeld ?rest4
                case hy4 => intro w hSw; (try dsimp only at hSw); go_simp; try with_reducible rfl
                case rest4 =>
                simp only [Act.put, List.setIfInBounds_toArray, List.set_cons_zero, List.set_cons_succ, List.getElem_toArray, List.getElem_cons_zero, List.getElem_cons_succ]
                refine wpAnyX_take (i := 5) (v := ?v5) rfl (by kernel_rfl) (by kernel_rfl) (by kernel_rfl) (by kernel_rfl) (by kernel_rfl) (fun _ _ _ h => h) (Or.inl ⟨by rfl, ?hy5⟩) hHeld ?rest5
                case hy5 => intro w hSw; (try dsimp only at hSw); go_simp; try with_reducible rfl
                case rest5 =>
                simp only [Act.put, List.setIfInBounds_toArray, List.set_cons_zero, List.set_cons_succ, List.getElem_toArray, List.getElem_cons_zero, List.getElem_cons_succ]
                refine wpAnyX_take (i := 6) (v := ?v6) rfl (by kernel_rfl) (by kernel_rfl) (by kernel_rfl) (by kernel_rfl) (by kernel_rfl) (fun _ _ _ h => h) (Or.inl ⟨by rfl, ?hy6⟩) hHeld ?rest6
                case hy6 => intro w hSw; (try dsimp only at hSw); go_simp; try with_reducible rfl
                case rest6 =>
                simp only [Act.put, List.setIfInBounds_toArray, List.set_cons_zero, List.set_cons_succ, List.getElem_toArray, List.getElem_cons_zero, List.getElem_cons_succ]
                refine wpAnyX_take (i := 7) (v := ?v7) rfl (by kernel_rfl) (by kernel_rfl) (by kernel_rfl) (by kernel_rfl) (by kernel_rfl) (fun _ _ _ h => h) (Or.inl ⟨by rfl, ?hy7⟩) hHeld ?rest7
                case hy7 => intro w hSw; (try dsimp only at hSw); go_simp; try with_reducible rfl
                case rest7 =>
                simp only [Act.put, List.setIfInBounds_toArray, List.set_cons_zero, List.set_cons_succ, List.getElem_toArray, List.getElem_cons_zero, List.getElem_cons_succ]
                refine wpAnyX_take (i := 8) (v := ?v8) rfl (by kernel_rfl) (by kernel_rfl) (by kernel_rfl) (by kernel_rfl) (by kernel_rfl) (fun _ _ _ h => h) (Or.inl ⟨by rfl, ?hy8⟩) hHeld ?rest8
                case hy8 => intro w hSw; (try dsimp only at hSw); go_simp; try with_reducible rfl
                case rest8 =>
                simp only [Act.put, List.setIfInBounds_toArray, List.set_cons_zero, List.set_cons_succ, List.getElem_toArray, List.getElem_cons_zero, List.getElem_cons_succ]
                refine wpAnyX_take (i := 9) (v := ?v9) rfl (by kernel_rfl) (by kernel_rfl) (by kernel_rfl) (by kernel_rfl) (by kernel_rfl) (fun _ _ _ h => h) (Or.inl ⟨by rfl, ?hy9⟩) hHeld ?rest9
                case hy9 => intro w hSw; (try dsimp only at hSw); go_simp; try with_reducible rfl
                case rest9 =>
                simp only [Act.put, List.setIfInBounds_toArray, List.set_cons_zero, List.set_cons_succ, List.getElem_toArray, List.getElem_cons_zero, List.getElem_cons_succ]
                refine wpAnyX_take (i := 10) (v := ?v10) rfl (by kernel_rfl) (by kernel_rfl) (by kernel_rfl) (by kernel_rfl) (by kernel_rfl) (fun _ _ _ h => h) (Or.inl ⟨by rfl, ?hy10⟩) hHeld ?rest10
                case hy10 => intro w hSw; (try dsimp only at hSw); go_simp; try with_reducible rfl
                case rest10 =>
                simp only [Act.put, List.setIfInBounds_toArray, List.set_cons_zero, List.set_cons_succ, List.getElem_toArray, List.getElem_cons_zero, List.getElem_cons_succ]
                refine wpAnyX_take (i := 11) (v := ?v11) rfl (by kernel_rfl) (by kernel_rfl) (by kernel_rfl) (by kernel_rfl) (by kernel_rfl) (fun _ _ _ h => h) (Or.inl ⟨by rfl, ?hy11⟩) hHeld ?rest11
                case hy11 => intro w hSw; (try dsimp only at hSw); go_simp; try with_reducible rfl
                case rest11 =>
                simp only [Act.put, List.setIfInBounds_toArray, List.set_cons_zero, List.set_cons_succ, List.getElem_toArray, List.getElem_cons_zero, List.getElem_cons_succ]
                refine wpAnyX_take (i := 12) (v := ?v12) rfl (by kernel_rfl) (by kernel_rfl) (by kernel_rfl) (by kernel_rfl) (by kernel_rfl) (fun _ _ _ h => h) (Or.inl ⟨by rfl, ?hy12⟩) hHeld ?rest12
                case hy12 => intro w hSw; (try dsimp only at hSw); go_simp; try with_reducible rfl
                case rest12 =>
                simp only [Act.put, List.setIfInBounds_toArray, List.set_cons_zero, List.set_cons_succ, List.getElem_toArray, List.getElem_cons_zero, List.getElem_cons_succ]
                refine wpAnyX_take (i := 13) (v := ?v13) rfl (by kernel_rfl) (by kernel_rfl) (by kernel_rfl) (by kernel_rfl) (by kernel_rfl) (fun _ _ _ h => h) (Or.inl ⟨by rfl, ?hy13⟩) hHeld ?rest13
                case hy13 => intro w hSw; (try dsimp only at hSw); go_simp; try with_reducible rfl
                case rest13 =>
                simp only [Act.put, List.setIfInBounds_toArray, List.set_cons_zero, List.set_cons_succ, List.getElem_toArray, List.getElem_cons_zero, List.getElem_cons_succ]
                refine wpAnyX_take (i := 14) (v := ?v14) rfl (by kernel_rfl) (by kernel_rfl) (by kernel_rfl) (by kernel_rfl) (by kernel_rfl) (fun _ _ _ h => h) (Or.inl ⟨by rfl, ?hy14⟩) hHeld ?rest14
                case hy14 => intro w hSw; (try dsimp only at hSw); go_simp; try with_reducible rfl
                case rest14 =>
                simp only [Act.put, List.setIfInBounds_toArray, List.set_cons_zero, List.set_cons_succ, List.getElem_toArray, List.getElem_cons_zero, List.getElem_cons_succ]
                refine wpAnyX_take (i := 15) (v := ?v15) rfl (by kernel_rfl) (by kernel_rfl) (by kernel_rfl) (by kernel_rfl) (by kernel_rfl) (fun _ _ _ h => h) (Or.inl ⟨by rfl, ?hy15⟩) hHeld ?rest15
                case hy15 => intro w hSw; (try dsimp only at hSw); go_simp; try with_reducible rfl
                case rest15 =>
                simp only [Act.put, List.setIfInBounds_toArray, List.set_cons_zero, List.set_cons_succ, List.getElem_toArray, List.getElem_cons_zero, List.getElem_cons_succ]
                refine wpAnyX_take (i := 16) (v := ?v16) rfl (by kernel_rfl) (by kernel_rfl) (by kernel_rfl) (by kernel_rfl) (by kernel_rfl) (fun _ _ _ h => h) (Or.inl ⟨by rfl, ?hy16⟩) hHeld ?rest16
                case hy16 => intro w hSw; (try dsimp only at hSw); go_simp; try with_reducible rfl
                case rest16 =>
                simp only [Act.put, List.setIfInBounds_toArray, List.set_cons_zero, List.set_cons_succ, List.getElem_toArray, List.getElem_cons_zero, List.getElem_cons_succ]
                refine wpAnyX_take (i := 17) (v := ?v17) rfl (by kernel_rfl) (by kernel_rfl) (by kernel_rfl) (by kernel_rfl) (by kernel_rfl) (fun _ _ _ h => h) (Or.inl ⟨by rfl, ?hy17⟩) hHeld ?rest17
                case hy17 => intro w hSw; (try dsimp only at hSw); go_simp; try with_reducible rfl
                case rest17 =>
                simp only [Act.put, List.setIfInBounds_toArray, List.set_cons_zero, List.set_cons_succ, List.getElem_toArray, List.getElem_cons_zero, List.getElem_cons_succ]
                refine wpAnyX_take (i := 18) (v := ?v18) rfl (by kernel_rfl) (by kernel_rfl) (by kernel_rfl) (by kernel_rfl) (by kernel_rfl) (fun _ _ _ h => h) (Or.inl ⟨by rfl, ?hy18⟩) hHeld ?rest18
                case hy18 => intro w hSw; (try dsimp only at hSw); go_simp; try with_reducible rfl
                case rest18 =>
                simp only [Act.put, List.setIfInBounds_toArray, List.set_cons_zero, List.set_cons_succ, List.getElem_toArray, List.getElem_cons_zero, List.getElem_cons_succ]
                refine wpAnyX_take (i := 19) (v := ?v19) rfl (by kernel_rfl) (by kernel_rfl) (by kernel_rfl) (by kernel_rfl) (by kernel_rfl) (fun _ _ _ h => h) (Or.inl ⟨by rfl, ?hy19⟩) hHeld ?rest19
                case hy19 => intro w hSw; (try dsimp only at hSw); go_simp; try with_reducible rfl
                case rest19 =>
                simp only [Act.put, List.setIfInBounds_toArray, List.set_cons_zero, List.set_cons_succ, List.getElem_toArray, List.getElem_cons_zero, List.getElem_cons_succ]
                refine wpAnyX_one (i := 20) (by kernel_rfl) rfl (fun K hK => ?_)
                go_simp
                refine (hcl _ (Below.refl _ _).drew).mono ?_
                rintro e w1 ⟨gp, cp, gw, cw, a7, n7, c7, w7, rfl, HC1, HC2, hrun, HC4, hfz, HB4⟩
                refine hK.out _ _ HC1 ?_
                clear hK K hHeld hcl
                refine wpAnyX_one (i := 21) (by kernel_rfl) rfl (fun K hK => ?_)
                go_simp
                refine hK.out _ _ (HC2 _) ?_
                clear hK K
                refine wpAnyX_one (i := 22) (by kernel_rfl) rfl (fun K hK => ?_)
                refine step_appR rfl (.tmp 105) (.tmp 122) rfl _ _ rfl rfl hrun ?_
                refine hK.out _ _ HC4 ?_
                clear hK K
                have hHeld := HC4
                refine wpAnyX_take (i := 23) (v := ?v23) rfl (by kernel_rfl) (by kernel_rfl) (by kernel_rfl) (by kernel_rfl) (by kernel_rfl) (fun _ _ _ h => h) (Or.inl ⟨by rfl, ?hy23⟩) hHeld ?rest23
                case hy23 => intro w hSw; (try dsimp only at hSw); go_simp; try with_reducible rfl
                case rest23 =>
                simp only [Act.put, List.setIfInBounds_toArray, List.set_cons_zero, List.set_cons_succ, List.getElem_toArray, List.getElem_cons_zero, List.getElem_cons_succ]
                refine wpAnyX_take (i := 24) (v := ?v24) rfl (by kernel_rfl) (by kernel_rfl) (by kernel_rfl) (by kernel_rfl) (by kernel_rfl) (fun _ _ _ h => h) (Or.inl ⟨by rfl, ?hy24⟩) hHeld ?rest24
                case hy24 => intro w hSw; (try dsimp only at hSw); go_simp; try with_reducible rfl
                case rest24 =>
                simp only [Act.put, List.setIfInBounds_toArray, List.set_cons_zero, List.set_cons_succ, List.getElem_toArray, List.getElem_cons_zero, List.getElem_cons_succ]
                refine wpAnyX_last (i := 25) (by kernel_rfl) rfl (by kernel_rfl) (fun K hK => ?_)
                have hq4 := HC4.1
                go_simp
                refine hK.out _ _ ?_
                clear hK K hHeld
                refine wpAnyX_done (by kernel_rfl) ?_ _
                go_wp2
                go_roundw
                case rel => exact ⟨k + 1, by omega, by go_num, HB4⟩
                case measure => simp only [intOf]; omega
              · obtain rfl : k = T.length := by omega
                have HP2 : Hid (Pl2 w p q A po nq wr) := CpS.done HT.out HC.out
                have x0 : wr.cell? ⟨q, 0, none⟩ = some (.slice a9 T.length cT) := by
                  obtain ⟨G, h⟩ := HC.out.right.left.see
                  rw [(FmX.box h).cell]
                  rfl
                clear HC
                go_wp2
                go_loopg [17] 10 (fun gk i W => ∃ j : Nat, gk = 10 - j ∧ j ≤ len2 ∧ j ≤ 10 ∧ i = .int .i64 j ∧ Hid (Pl2 w p q A po nq W))
                case atStart => exact ⟨0, rfl, Nat.zero_le _, by omega, rfl, HP2⟩
                case round =>
                  obtain ⟨j, hgk, hj, hj8, rfl, HB⟩ := hrel
                  clear HP2
                  have HGK : Hid (gk = 10 - j) := hgk
                  clear hgk
                  by_cases hlt : j < len2 ∧ j < 10
                  · obtain ⟨h1, h2⟩ := hlt
                    have h1z : (j : Int) < (len2 : Int) := by omega
                    have h2z : (j : Int) < 10 := by omega
                    obtain ⟨g, off, rfl, hglt, hok, hc⟩ := FDd.lst HLst2.out HB.out.old.frame h1
                    generalize D2 j = d at *
                    obtain ⟨c0, c1, c2, c3, c4, c5, c6, c7, c8, c9⟩ := FDd.at hc
                    have HOK : Hid d.ok := hok
                    clear hglt hc hok
                    go_upto_region 33 with fail
                    obtain ⟨ao2, n, c2', hn, x0⟩ := HB.out.new.list
                    have hP := pick_any d.what 11 wr HOK.out.1.1 HOK.out.1.2 (by omega) (by omega)
                    generalize pickN d.what 11 = m at *
                    go_cut [150] from 136 to 150 (fun s40 wx => ∃ b : Bool, s40 = .bool b ∧ wr = wx)
                    case first =>
                      by_cases h5 : (5 : Int) < (n : Int)
                      · by_cases hm2 : (m : Int) < 2
                        · go_wp2_with fail
                          refine hP.mono ?_
                          rintro e w' ⟨rfl, rfl⟩
                          go_wp2_with fail
                          go_meet
                          exact ⟨_, rfl, rfl⟩
                        · go_wp2_with fail
                          refine hP.mono ?_
                          rintro e w' ⟨rfl, rfl⟩
                          go_wp2_with fail
                          go_meet
                          exact ⟨_, rfl, rfl⟩
                      · go_wp2_with fail
                        go_meet
                        exact ⟨_, rfl, rfl⟩
                    case rest =>
                      obtain ⟨b, rfl, rfl⟩ := hcut
                      clear hP x0 hn
                      cases b with
                      | true =>
                        clear c0 c1 c2 c3 c4 c5 c6 c7 c8 c9
                        go_wp2
                        go_roundg (10 - (j + 1))
                        case measure => rw [HGK.out]; omega
                        case rel => exact ⟨j + 1, rfl, by omega, by omega, by go_num, HB⟩
                      | false =>
                        have hdo := HB.out.deed HOK.out
                        unfold FDd.arr at hdo
                        clear HB
                        go_wp2_with fail
                        refine hdo.mono ?_
                        rintro e w3 ⟨rfl, HR⟩
                        clear hdo c0 c1 c2 c3 c4 c5 c6 c7 c8 c9
                        go_wp2
                        go_roundg (10 - (j + 1))
                        case measure => rw [HGK.out]; omega
                        case rel => exact ⟨j + 1, rfl, by omega, by omega, by go_num, HR⟩
                  · have hx : (¬ (j : Int) < (len2 : Int)) ∨ ((j : Int) < (len2 : Int) ∧ ¬ (j : Int) < 10) := by omega
                    clear hlt hj hj8
                    go_upto_region 31 with fail
                    go_cut [133] from 126 to 133 (fun s38 wx => s38 = .bool false ∧ wr = wx)
                    case first =>
                      clear HB HLst2
                      rcases hx with hx | ⟨hx, hy⟩
                      · go_wp2_with fail
                        go_meet
                        exact ⟨rfl, rfl⟩
                      · go_wp2_with fail
                        go_meet
                        exact ⟨rfl, rfl⟩
                    case rest =>
                      obtain ⟨rfl, rfl⟩ := hcut
                      clear hx HGK
                      have hS := HB.out.old.same4
                      go_wp2_with fail
                      refine (hS _ _ _ _ _ _).mono ?_
                      rintro e w9 ⟨rfl, hb9⟩
                      have H9 : Hid (Pl2 w p q A po nq w9) := HB.out.next hb9.out
                      clear hS hb9 HB
                      have hS := H9.out.new.same4
                      go_wp2_with fail
                      refine (hS _ _ _ _ _ _).mono ?_
                      rintro e w10 ⟨rfl, hb10⟩
                      have HF : Hid (Below w.heap.size w w10) := (H9.out.next hb10.out).old.frame
                      clear hS hb10 H9
                      go_wp2
                      go_ret
                      exact ⟨rfl, HF.out⟩
end Go.Proofs.Ytoimmapdkapheaa
