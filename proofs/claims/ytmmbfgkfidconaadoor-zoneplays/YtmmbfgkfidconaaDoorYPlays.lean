/- ZonePlays, walked. -/
import Derived.Test.YtmmbfgkfidconaaDoorYPlay
import Derived.Deep.CutRange
import Derived.Lib.ItoaWalk
namespace Go.Proofs.YtmmbfgkfidconaaDoor
open Go.RowKit

set_option maxRecDepth 100000 in
set_option maxHeartbeats 64000000 in
theorem walk_zonePlays (a0 : Int) (ao : Option Addr) (len cap : Nat) (D : Nat → YDd) (w : World) (hT : Tab w) (b0 : -9223372036854775808 ≤ a0 ∧ a0 ≤ 9223372036854775807) (hm : len ≤ maxLen) (hL : Lst YDd.cells YDd.ok 4 w ao len D) :
    Calls Tryd.prog 4 #[.int .i64 a0, .slice ao len cap] w fun e w' => e = .returned (.bool true) ∧ Below w.heap.size w w' := by
  have hU := up8_any w hT
  have hP0 := fun w => pick8_any a0 70 w b0.1 b0.2 (by decide) (by decide)
  have l0 := pickN_lt a0 70 (by decide)
  obtain ⟨n, hn⟩ : ∃ n, n = 1 + pickN a0 70 := ⟨_, rfl⟩
  have hnz : (1 : Int) + (pickN a0 70 : Int) = (n : Int) := by omega
  have hn1 : 1 ≤ n := by omega
  have hn2 : n ≤ 70 := by omega
  have hmz : len ≤ 9223372036854775807 := by unfold maxLen at hm; omega
  have HT : Hid (Tab w) := hT
  have HL : Hid (Lst YDd.cells YDd.ok 4 w ao len D) := hL
  have hR := fun w => refNewZ_any n w hn1 (by omega)
  clear hT hn hL hm
  go_enter Tryd.func4, Tryd.ntmps4
  go_wp2_with fail
  refine hU.mono ?_
  rintro e w1 ⟨rfl, hb1⟩
  have hN := znNew (G := fun _ => False) HT.out hb1 (fun _ h => h.elim) n hn1 (by omega)
  clear hU
  go_wp2_with (go_at_call 12; refine (hP0 _).mono ?_; rintro e w2 ⟨rfl, hw⟩; obtain rfl := hw.symm; clear hw)
  refine hN.mono ?_
  rintro e w2 ⟨z, rfl, O2, -⟩
  clear hN hb1 hP0
  go_wp2_with fail
  refine (hR _).mono ?_
  rintro e w3 ⟨m, s, t, kk, cs, ct, ck, rfl, M3, hb3⟩
  have HQ0 : Hid (ZQ w w3 z n w2.heap.size m s t kk cs ct ck (blkL 0 n) (List.replicate ((n + 7) / 8) (1, false)) (List.replicate n true)) := ⟨⟨plus (fun _ => False) w2 w3, O2.more hb3, M3, fun b hb => Or.inr (M3.lt b hb)⟩, by simp, O2.frame.size, new_model (by omega)⟩
  generalize w2.heap.size = hi at *
  clear hR O2 M3 hb3
  go_wp2_with fail
  go_loopw [9] (fun iv W => ∃ (k : Nat) (L : List Bk) (gs : List Gp) (M : List Bool), k ≤ len ∧ k ≤ 60 ∧ iv = .int .i64 k ∧ Hid (ZQ w W z n hi m s t kk cs ct ck L gs M)) (fun iv _ => len - (intOf iv).toNat)
  case atStart => exact ⟨0, _, _, _, Nat.zero_le _, by omega, rfl, HQ0⟩
  case round =>
    obtain ⟨k, L, gs, M, hk, hk8, rfl, HI⟩ := hrel
    clear HQ0
    have hfr : Below w.heap.size w wr := HI.out.frame
    by_cases hlt : k < len ∧ k < 60
    · have hz1 : (k : Int) < (len : Int) := by omega
      have hz2 : (k : Int) < 60 := by omega
      obtain ⟨bb, off, rfl, hbw, hal⟩ := (HL.out.below hfr).at hlt.1
      obtain ⟨hok, hcl⟩ := hal k hlt.1
      have c0 := hcl 0 (by decide)
      have c1 := hcl 1 (by decide)
      have c2 := hcl 2 (by decide)
      have c3 := hcl 3 (by decide)
      simp [YDd.cells] at c0 c1 c2 c3
      obtain ⟨⟨p1, p2⟩, -, -, hdf⟩ := hok
      have hPa := fun w => pick8_any (D k).what 7 w p1 p2 (by decide) (by decide)
      generalize hda : D k = dd at *
      obtain ⟨dw, ds, dor, df⟩ := dd
      simp only at *
      have l3 := pickN_lt dw 7 (by decide)
      obtain ⟨G, P0⟩ := HI.out.lay #[.int .i64 dw, .int .i64 ds, .int .i64 dor, .int .i64 df]
      have HCV : Hid (∀ x, covB L x = M.getD x false) := HI.out.2.2.2
      have HML : Hid (M.length = n) := HI.out.2.1
      have HP : Hid (ZD w (wr.alloc (.cells #[.int .i64 dw, .int .i64 ds, .int .i64 dor, .int .i64 df] 36)) z n hi m s t kk cs ct ck L gs M gs wr.heap.size #[.int .i64 dw, .int .i64 ds, .int .i64 dor, .int .i64 df] G) := P0
      have hBl := fun w => refBlock_any (some ⟨s, 0, none⟩) M.length cs df dor w (by rw [HML.out]; omega)
      clear hal hcl hda HI P0 hfr
      obtain ⟨mi, hmi⟩ : ∃ mi : Int, (pickN dw 7 : Int) = mi := ⟨_, rfl⟩
      have hmc : mi = 0 ∨ mi = 1 ∨ mi = 2 ∨ mi = 3 ∨ mi = 4 ∨ mi = 5 ∨ mi = 6 := by omega
      rw [hmi] at hPa
      clear hmi l3
      go_upto_region 13 with fail
      go_name_world W0 hW0
      have P0 : ZD w W0 z n hi m s t kk cs ct ck L gs M gs wr.heap.size #[.int .i64 dw, .int .i64 ds, .int .i64 dor, .int .i64 df] G := by rw [← hW0]; exact HP.out
      clear hW0 HP c0 c1 c2 c3
      generalize wr.heap.size = db at *
      obtain ⟨d0, d1, d2, d3⟩ := P0.cells
      obtain ⟨m0, m1, -⟩ := P0.mb.cells
      have HP0 : Hid (ZD w W0 z n hi m s t kk cs ct ck L gs M gs db #[.int .i64 dw, .int .i64 ds, .int .i64 dor, .int .i64 df] G) := P0
      have hg6 : gs.length ≤ 64 := by have := P0.zn.len.1; omega
      have hM7 : M.length ≤ 70 := by have := P0.len; omega
      clear P0
      obtain ⟨gb, hgb⟩ : ∃ gb : Bool, gb = decide (0 ≤ df ∧ df < (gs.length : Int)) := ⟨_, rfl⟩
      have HGB : Hid (gb = decide (0 ≤ df ∧ df < (gs.length : Int))) := hgb
      obtain ⟨ob, hob⟩ : ∃ ob : Bool, ob = (decide (dor ≤ 3) && hasB M.length df dor) := ⟨_, rfl⟩
      have HOB : Hid (ob = (decide (dor ≤ 3) && hasB M.length df dor)) := hob
      clear hob hgb
      go_cut [13] from 50 to 62 (fun s13 W => s13 = .bool gb ∧ Hid (ZD w W z n hi m s t kk cs ct ck L gs M gs db #[.int .i64 dw, .int .i64 ds, .int .i64 dor, .int .i64 df] G))
      case first =>
        clear hPa hBl
        by_cases h1 : 0 ≤ df
        · by_cases h2 : df < (gs.length : Int)
          · have e1 : gb = true := by rw [HGB.out, decide_eq_true ⟨h1, h2⟩]
            go_quiet (fail)
            go_wp2_with fail
            go_meet
            exact ⟨by rw [e1], HP0.out.below (below_drewN (Below.refl _ _) _)⟩
          · have e1 : gb = false := by rw [HGB.out, decide_eq_false (by omega)]
            go_quiet (fail)
            go_wp2_with fail
            go_meet
            exact ⟨by rw [e1], HP0.out.below (below_drewN (Below.refl _ _) _)⟩
        · have e1 : gb = false := by rw [HGB.out, decide_eq_false (by omega)]
          go_quiet (fail)
          go_wp2_with fail
          go_meet
          exact ⟨by rw [e1], HP0.out.below (below_drewN (Below.refl _ _) _)⟩
      case rest =>
      obtain ⟨rfl, HP1⟩ := hcut
      clear d0 d1 d2 d3 m0 m1 HP0
      apply_assumption
      obtain ⟨d0, d1, d2, d3⟩ := HP1.out.cells
      obtain ⟨m0, m1, -⟩ := HP1.out.mb.cells
      go_upto_region 14 with fail
      go_cut [14] from 63 to 76 (fun s14 W => s14 = .bool ob ∧ Hid (ZD w W z n hi m s t kk cs ct ck L gs M gs db #[.int .i64 dw, .int .i64 ds, .int .i64 dor, .int .i64 df] G))
      case first =>
        clear hPa
        by_cases h1 : dor ≤ 3
        · have e1 : ob = hasB M.length df dor := by rw [HOB.out, decide_eq_true h1, Bool.true_and]
          go_quiet (first | (go_at_call 13; exact Calls.quiet_of_same (hBl _)))
          go_wp2_with fail
          go_meet
          exact ⟨by rw [e1], HP1.out.below (below_drewN (Below.refl _ _) _)⟩
        · have e1 : ob = false := by rw [HOB.out, decide_eq_false h1, Bool.false_and]
          clear hBl
          go_quiet (fail)
          go_wp2_with fail
          go_meet
          exact ⟨by rw [e1], HP1.out.below (below_drewN (Below.refl _ _) _)⟩
      case rest =>
      obtain ⟨rfl, HP2⟩ := hcut
      clear d0 d1 d2 d3 m0 m1 HP1 hBl
      apply_assumption
      obtain ⟨d0, d1, d2, d3⟩ := HP2.out.cells
      go_upto_region 15 with fail
      go_cut [79] from 77 to 78 (fun s79 W => s79 = .int .i64 mi ∧ Hid (ZD w W z n hi m s t kk cs ct ck L gs M gs db #[.int .i64 dw, .int .i64 ds, .int .i64 dor, .int .i64 df] G))
      case first =>
        go_wp2_with fail
        refine (hPa _).mono ?_
        rintro e w5 ⟨rfl, hw⟩
        obtain rfl := hw.symm
        clear hw hPa
        go_wp2_with fail
        go_meet
        exact ⟨rfl, HP2⟩
      case rest =>
      obtain ⟨rfl, HP3⟩ := hcut
      clear d0 d1 d2 d3 HP2 hPa
      apply_assumption

      obtain ⟨d0, d1, d2, d3⟩ := HP3.out.cells
      obtain ⟨m0, m1, m2⟩ := HP3.out.mb.cells
      go_cut [11, 12, 15, 16, 17] from 80 to 222 (fun s11 s12 s15 s16 s17 W => Rgt s11 s12 ∧ Hid (ZE w z n hi m s t kk cs ct ck W))
      case first =>
        have HL6 : Hid (gs.length ≤ 64 ∧ M.length ≤ gs.length * 8) := ⟨hg6, by have := HP3.out.zn.len.1; have := HML.out; omega⟩
        clear hk hk8 hz1 hz2 hlt hbw
        rcases hmc with rfl | rfl | rfl | rfl | rfl | rfl | rfl
        · by_cases hbad : (0 ≤ ds ∧ ds ≤ 1) ∧ 0 ≤ dor ∧ dor ≤ 3
          · obtain ⟨hs01, ho0, ho3⟩ := hbad
            obtain ⟨o, rfl⟩ : ∃ o : Nat, dor = o := ⟨dor.toNat, by omega⟩
            have h3 : o ≤ 3 := by omega
            obtain ⟨res, hres⟩ := zp_ex (gs := gs) HP3.out.zn.ok ds o
            have hK := HP3.out.zn.take HT.out ds hs01 o h3 hres
            have hRT := fun w' (h : MB hi w' m s t kk cs ct ck M gs) => refTakeZ_any h (by rw [HML.out]; exact HP3.out.zn.ok) HCV.out HL6.out.1 HL6.out.2 ds hs01.1 o h3 hres
            have HZP : Hid (Zp gs L ds o res) := hres
            have hds0 : ¬ ds < 0 := by omega
            have hds1 : ¬ (1 : Int) < ds := by omega
            have hor0 : ¬ (o : Int) < 0 := by omega
            have hor3 : ¬ (3 : Int) < (o : Int) := by omega
            unfold TakeW at hK
            unfold RTakeZ at hRT
            clear hres ho0 ho3 m0 m1 m2
            cases res with
            | none =>
              as_aux_lemma =>
              simp only at hK hRT
              go_wp2_with fail
              refine hK.mono ?_
              rintro e w6 ⟨rfl, O6, S6⟩
              have P6 := HP3.out.op O6 S6
              have hR6 := hRT w6 P6.mb
              obtain ⟨d0, d1, d2, d3⟩ := P6.cells
              have HP6 : Hid (ZD w w6 z n hi m s t kk cs ct ck L gs M gs db #[.int .i64 dw, .int .i64 ds, .int .i64 o, .int .i64 df] G) := P6
              clear hK hRT P6 O6 S6 HP3
              go_wp2_with fail
              refine hR6.mono ?_
              rintro e w7 ⟨rfl, M7, K7⟩
              have HE : Hid (ZE w z n hi m s t kk cs ct ck w7) := ⟨L, gs, M, (HP6.out.mod M7 HML.out K7).back HCV.out⟩
              clear hR6 M7 K7 HP6 d0 d1 d2 d3
              go_wp2_with fail
              go_meet
              exact ⟨Or.inr (Or.inr (Or.inl ⟨rfl, rfl⟩)), HE⟩
            | some r =>
              as_aux_lemma =>
              simp only at hK hRT
              obtain ⟨f, ro⟩ := r
              simp only at hK hRT
              obtain ⟨gn, hgn⟩ : ∃ gn, gs.set (f / 8) (ds, false) = gn := ⟨_, rfl⟩
              rw [hgn] at hK hRT
              clear hgn
              go_wp2_with fail
              refine hK.mono ?_
              rintro e w6 ⟨rfl, L6, O6, S6, cv6⟩
              have P6 := HP3.out.op O6 S6
              have hR6 := hRT w6 P6.mb
              obtain ⟨d0, d1, d2, d3⟩ := P6.cells
              have HC6 : Hid (∀ x, covB L6 x = (setK M f (2 ^ o) false).getD x false) := cov_off (b := (f, o)) HP3.out.zn.ok HML.out HCV.out cv6
              have HP6 : Hid (ZD w w6 z n hi m s t kk cs ct ck L6 gn M gs db #[.int .i64 dw, .int .i64 ds, .int .i64 o, .int .i64 df] G) := P6
              clear hK hRT P6 O6 S6 HP3 cv6
              go_wp2_with fail
              refine hR6.mono ?_
              rintro e w7 ⟨rfl, M7, K7⟩
              have HE : Hid (ZE w z n hi m s t kk cs ct ck w7) := ⟨L6, gn, _, (HP6.out.mod M7 ((setK_len _ _ _ _).trans HML.out) K7).back HC6.out⟩
              have hfz : ¬ ((f : Int) < 0) := by omega
              have hff : ((f : Int) != (f : Int)) = false := by simp
              clear hR6 M7 K7 HP6 HC6 d0 d1 d2 d3
              go_wp2_with fail
              go_meet
              exact ⟨Or.inl ⟨rfl, rfl⟩, HE⟩
          · as_aux_lemma =>
            have hK := HP3.out.zn.takeNo ds dor (by omega)
            have hw4 : ds < 0 ∨ (¬ ds < 0 ∧ (1 : Int) < ds) ∨ (¬ ds < 0 ∧ ¬ (1 : Int) < ds ∧ dor < 0) ∨ (¬ ds < 0 ∧ ¬ (1 : Int) < ds ∧ ¬ dor < 0 ∧ (3 : Int) < dor) := by omega
            clear hbad m0 m1 m2
            go_wp2_with fail
            refine hK.mono ?_
            rintro e w6 ⟨rfl, O6, S6⟩
            have P6 := HP3.out.op O6 S6
            obtain ⟨d0, d1, d2, d3⟩ := P6.cells
            have HE : Hid (ZE w z n hi m s t kk cs ct ck w6) := ⟨L, gs, M, P6.back HCV.out⟩
            clear hK P6 O6 S6 HP3
            rcases hw4 with h1 | ⟨h1, h2⟩ | ⟨h1, h2, h3⟩ | ⟨h1, h2, h3, h4⟩
            all_goals
              go_wp2_with fail
              go_meet
              exact ⟨Or.inr (Or.inl ⟨rfl, rfl⟩), HE⟩
        · by_cases hbad : (0 ≤ ds ∧ ds ≤ 1) ∧ 0 ≤ dor ∧ dor ≤ 3
          · obtain ⟨hs01, ho0, ho3⟩ := hbad
            obtain ⟨o, rfl⟩ : ∃ o : Nat, dor = o := ⟨dor.toNat, by omega⟩
            have h3 : o ≤ 3 := by omega
            obtain ⟨res, hres⟩ := zp_ex (gs := gs) HP3.out.zn.ok ds o
            have hK := HP3.out.zn.take HT.out ds hs01 o h3 hres
            have hRT := fun w' (h : MB hi w' m s t kk cs ct ck M gs) => refTakeZ_any h (by rw [HML.out]; exact HP3.out.zn.ok) HCV.out HL6.out.1 HL6.out.2 ds hs01.1 o h3 hres
            have HZP : Hid (Zp gs L ds o res) := hres
            have hds0 : ¬ ds < 0 := by omega
            have hds1 : ¬ (1 : Int) < ds := by omega
            have hor0 : ¬ (o : Int) < 0 := by omega
            have hor3 : ¬ (3 : Int) < (o : Int) := by omega
            unfold TakeW at hK
            unfold RTakeZ at hRT
            clear hres ho0 ho3 m0 m1 m2
            cases res with
            | none =>
              as_aux_lemma =>
              simp only at hK hRT
              go_wp2_with fail
              refine hK.mono ?_
              rintro e w6 ⟨rfl, O6, S6⟩
              have P6 := HP3.out.op O6 S6
              have hR6 := hRT w6 P6.mb
              obtain ⟨d0, d1, d2, d3⟩ := P6.cells
              have HP6 : Hid (ZD w w6 z n hi m s t kk cs ct ck L gs M gs db #[.int .i64 dw, .int .i64 ds, .int .i64 o, .int .i64 df] G) := P6
              clear hK hRT P6 O6 S6 HP3
              go_wp2_with fail
              refine hR6.mono ?_
              rintro e w7 ⟨rfl, M7, K7⟩
              have HE : Hid (ZE w z n hi m s t kk cs ct ck w7) := ⟨L, gs, M, (HP6.out.mod M7 HML.out K7).back HCV.out⟩
              clear hR6 M7 K7 HP6 d0 d1 d2 d3
              go_wp2_with fail
              go_meet
              exact ⟨Or.inr (Or.inr (Or.inl ⟨rfl, rfl⟩)), HE⟩
            | some r =>
              as_aux_lemma =>
              simp only at hK hRT
              obtain ⟨f, ro⟩ := r
              simp only at hK hRT
              obtain ⟨gn, hgn⟩ : ∃ gn, gs.set (f / 8) (ds, false) = gn := ⟨_, rfl⟩
              rw [hgn] at hK hRT
              clear hgn
              go_wp2_with fail
              refine hK.mono ?_
              rintro e w6 ⟨rfl, L6, O6, S6, cv6⟩
              have P6 := HP3.out.op O6 S6
              have hR6 := hRT w6 P6.mb
              obtain ⟨d0, d1, d2, d3⟩ := P6.cells
              have HC6 : Hid (∀ x, covB L6 x = (setK M f (2 ^ o) false).getD x false) := cov_off (b := (f, o)) HP3.out.zn.ok HML.out HCV.out cv6
              have HP6 : Hid (ZD w w6 z n hi m s t kk cs ct ck L6 gn M gs db #[.int .i64 dw, .int .i64 ds, .int .i64 o, .int .i64 df] G) := P6
              clear hK hRT P6 O6 S6 HP3 cv6
              go_wp2_with fail
              refine hR6.mono ?_
              rintro e w7 ⟨rfl, M7, K7⟩
              have HE : Hid (ZE w z n hi m s t kk cs ct ck w7) := ⟨L6, gn, _, (HP6.out.mod M7 ((setK_len _ _ _ _).trans HML.out) K7).back HC6.out⟩
              have hfz : ¬ ((f : Int) < 0) := by omega
              have hff : ((f : Int) != (f : Int)) = false := by simp
              clear hR6 M7 K7 HP6 HC6 d0 d1 d2 d3
              go_wp2_with fail
              go_meet
              exact ⟨Or.inl ⟨rfl, rfl⟩, HE⟩
          · as_aux_lemma =>
            have hK := HP3.out.zn.takeNo ds dor (by omega)
            have hw4 : ds < 0 ∨ (¬ ds < 0 ∧ (1 : Int) < ds) ∨ (¬ ds < 0 ∧ ¬ (1 : Int) < ds ∧ dor < 0) ∨ (¬ ds < 0 ∧ ¬ (1 : Int) < ds ∧ ¬ dor < 0 ∧ (3 : Int) < dor) := by omega
            clear hbad m0 m1 m2
            go_wp2_with fail
            refine hK.mono ?_
            rintro e w6 ⟨rfl, O6, S6⟩
            have P6 := HP3.out.op O6 S6
            obtain ⟨d0, d1, d2, d3⟩ := P6.cells
            have HE : Hid (ZE w z n hi m s t kk cs ct ck w6) := ⟨L, gs, M, P6.back HCV.out⟩
            clear hK P6 O6 S6 HP3
            rcases hw4 with h1 | ⟨h1, h2⟩ | ⟨h1, h2, h3⟩ | ⟨h1, h2, h3, h4⟩
            all_goals
              go_wp2_with fail
              go_meet
              exact ⟨Or.inr (Or.inl ⟨rfl, rfl⟩), HE⟩
        · by_cases hbad : (0 ≤ ds ∧ ds ≤ 1) ∧ 0 ≤ dor ∧ dor ≤ 3
          · obtain ⟨hs01, ho0, ho3⟩ := hbad
            obtain ⟨o, rfl⟩ : ∃ o : Nat, dor = o := ⟨dor.toNat, by omega⟩
            have h3 : o ≤ 3 := by omega
            obtain ⟨res, hres⟩ := zp_ex (gs := gs) HP3.out.zn.ok ds o
            have hK := HP3.out.zn.take HT.out ds hs01 o h3 hres
            have hRT := fun w' (h : MB hi w' m s t kk cs ct ck M gs) => refTakeZ_any h (by rw [HML.out]; exact HP3.out.zn.ok) HCV.out HL6.out.1 HL6.out.2 ds hs01.1 o h3 hres
            have HZP : Hid (Zp gs L ds o res) := hres
            have hds0 : ¬ ds < 0 := by omega
            have hds1 : ¬ (1 : Int) < ds := by omega
            have hor0 : ¬ (o : Int) < 0 := by omega
            have hor3 : ¬ (3 : Int) < (o : Int) := by omega
            unfold TakeW at hK
            unfold RTakeZ at hRT
            clear hres ho0 ho3 m0 m1 m2
            cases res with
            | none =>
              as_aux_lemma =>
              simp only at hK hRT
              go_wp2_with fail
              refine hK.mono ?_
              rintro e w6 ⟨rfl, O6, S6⟩
              have P6 := HP3.out.op O6 S6
              have hR6 := hRT w6 P6.mb
              obtain ⟨d0, d1, d2, d3⟩ := P6.cells
              have HP6 : Hid (ZD w w6 z n hi m s t kk cs ct ck L gs M gs db #[.int .i64 dw, .int .i64 ds, .int .i64 o, .int .i64 df] G) := P6
              clear hK hRT P6 O6 S6 HP3
              go_wp2_with fail
              refine hR6.mono ?_
              rintro e w7 ⟨rfl, M7, K7⟩
              have HE : Hid (ZE w z n hi m s t kk cs ct ck w7) := ⟨L, gs, M, (HP6.out.mod M7 HML.out K7).back HCV.out⟩
              clear hR6 M7 K7 HP6 d0 d1 d2 d3
              go_wp2_with fail
              go_meet
              exact ⟨Or.inr (Or.inr (Or.inl ⟨rfl, rfl⟩)), HE⟩
            | some r =>
              as_aux_lemma =>
              simp only at hK hRT
              obtain ⟨f, ro⟩ := r
              simp only at hK hRT
              obtain ⟨gn, hgn⟩ : ∃ gn, gs.set (f / 8) (ds, false) = gn := ⟨_, rfl⟩
              rw [hgn] at hK hRT
              clear hgn
              go_wp2_with fail
              refine hK.mono ?_
              rintro e w6 ⟨rfl, L6, O6, S6, cv6⟩
              have P6 := HP3.out.op O6 S6
              have hR6 := hRT w6 P6.mb
              obtain ⟨d0, d1, d2, d3⟩ := P6.cells
              have HC6 : Hid (∀ x, covB L6 x = (setK M f (2 ^ o) false).getD x false) := cov_off (b := (f, o)) HP3.out.zn.ok HML.out HCV.out cv6
              have HP6 : Hid (ZD w w6 z n hi m s t kk cs ct ck L6 gn M gs db #[.int .i64 dw, .int .i64 ds, .int .i64 o, .int .i64 df] G) := P6
              clear hK hRT P6 O6 S6 HP3 cv6
              go_wp2_with fail
              refine hR6.mono ?_
              rintro e w7 ⟨rfl, M7, K7⟩
              have HE : Hid (ZE w z n hi m s t kk cs ct ck w7) := ⟨L6, gn, _, (HP6.out.mod M7 ((setK_len _ _ _ _).trans HML.out) K7).back HC6.out⟩
              have hfz : ¬ ((f : Int) < 0) := by omega
              have hff : ((f : Int) != (f : Int)) = false := by simp
              clear hR6 M7 K7 HP6 HC6 d0 d1 d2 d3
              go_wp2_with fail
              go_meet
              exact ⟨Or.inl ⟨rfl, rfl⟩, HE⟩
          · as_aux_lemma =>
            have hK := HP3.out.zn.takeNo ds dor (by omega)
            have hw4 : ds < 0 ∨ (¬ ds < 0 ∧ (1 : Int) < ds) ∨ (¬ ds < 0 ∧ ¬ (1 : Int) < ds ∧ dor < 0) ∨ (¬ ds < 0 ∧ ¬ (1 : Int) < ds ∧ ¬ dor < 0 ∧ (3 : Int) < dor) := by omega
            clear hbad m0 m1 m2
            go_wp2_with fail
            refine hK.mono ?_
            rintro e w6 ⟨rfl, O6, S6⟩
            have P6 := HP3.out.op O6 S6
            obtain ⟨d0, d1, d2, d3⟩ := P6.cells
            have HE : Hid (ZE w z n hi m s t kk cs ct ck w6) := ⟨L, gs, M, P6.back HCV.out⟩
            clear hK P6 O6 S6 HP3
            rcases hw4 with h1 | ⟨h1, h2⟩ | ⟨h1, h2, h3⟩ | ⟨h1, h2, h3, h4⟩
            all_goals
              go_wp2_with fail
              go_meet
              exact ⟨Or.inr (Or.inl ⟨rfl, rfl⟩), HE⟩
        · cases hob : ob with
          | false =>
            as_aux_lemma =>
            have hh : 3 < dor ∨ hasB n df dor = false := by
              have h1 := HOB.out
              rw [hob, HML.out] at h1
              by_cases h2 : dor ≤ 3
              · rw [decide_eq_true h2, Bool.true_and] at h1
                exact Or.inr h1.symm
              · exact Or.inl (by omega)
            subst hob
            have hK := HP3.out.zn.takeAtNo df dor hdf hh
            clear hh m0 m1 m2 HOB
            go_wp2_with fail
            refine hK.mono ?_
            rintro e w6 ⟨rfl, O6, S6⟩
            have P6 := HP3.out.op O6 S6
            have HE : Hid (ZE w z n hi m s t kk cs ct ck w6) := ⟨L, gs, M, P6.back HCV.out⟩
            clear hK P6 O6 S6 HP3 d0 d1 d2 d3
            go_wp2_with fail
            go_meet
            exact ⟨Or.inr (Or.inl ⟨rfl, rfl⟩), HE⟩
          | true =>
            have hh : dor ≤ 3 ∧ hasB M.length df dor = true := by
              have h1 := HOB.out
              rw [hob] at h1
              have h2 := h1.symm
              rw [Bool.and_eq_true, decide_eq_true_eq] at h2
              exact h2
            subst hob
            obtain ⟨h3, hh⟩ := hh
            obtain ⟨f2, o, rfl, rfl, hab, hbe⟩ := hasB_nat hh
            have h3' : o ≤ 3 := by omega
            have HAB : Hid (alB (f2, o) ∧ bend (f2, o) ≤ M.length) := ⟨hab, hbe⟩
            have hK := HP3.out.zn.takeAt HT.out (f2, o) hab h3' (by rw [← HML.out]; exact hbe)
            have hAl := fun w' (h : MB hi w' m s t kk cs ct ck M gs) (r : Bool) hr => refAll_any h.rs (by have := HML.out; omega) (f2, o) (by show o ≤ 5; omega) hbe true r hr
            simp only at hAl
            clear hh hab hbe m0 m1 m2 HOB
            by_cases hall : allB L (f2, o) true
            · as_aux_lemma =>
              have HALL : Hid (allB L (f2, o) true) := hall
              clear hall
              go_wp2_with fail
              refine hK.mono ?_
              rintro e w6 ⟨h6, -⟩
              obtain ⟨rfl, L6, O6, S6, cv6⟩ := h6 HALL.out
              have P6 := HP3.out.op O6 S6
              obtain ⟨d0, d1, d2, d3⟩ := P6.cells
              obtain ⟨m0, -, -⟩ := P6.mb.cells
              have hA6 := fun k => hAl (w6.drewN k) (P6.mb.below (below_drewN (Below.refl _ _) k)) true ⟨fun _ => (allB_M HCV.out (f2, o) true).1 HALL.out, fun _ => rfl⟩
              have HC6 : Hid (∀ x, covB L6 x = (setK M f2 (2 ^ o) false).getD x false) := cov_off (b := (f2, o)) HP3.out.zn.ok HML.out HCV.out cv6
              have HP6 : Hid (ZD w w6 z n hi m s t kk cs ct ck L6 gs M gs db #[.int .i64 dw, .int .i64 ds, .int .i64 o, .int .i64 f2] G) := P6
              clear hK hAl P6 O6 S6 HP3 h6 cv6
              go_upto_region 40 with fail
              go_quiet (first | (go_at_call 17; exact Calls.quiet_of_same (hA6 _)))
              clear hA6 d0 d1 d2 d3 m0
              go_upto_region 42 with fail
              go_name_world W7 hW7
              have P7 : ZD w W7 z n hi m s t kk cs ct ck L6 gs M gs db #[.int .i64 dw, .int .i64 ds, .int .i64 o, .int .i64 f2] G := by rw [← hW7]; exact HP6.out.below (below_drewN (Below.refl _ _) nq)
              clear hW7
              obtain ⟨-, -, d2, d3⟩ := P7.cells
              obtain ⟨m0, -, -⟩ := P7.mb.cells
              have hdr : Below (W7).heap.size (W7) (W7).drew := (Below.refl _ _).drew
              have hT := rt_tail (P7.mb.below hdr) (Keeps.of_below hdr _) (by have := HML.out; omega) (f := f2) (show o ≤ 5 by omega) HAB.out.2 false
              have hms : ¬ m = s := P7.mb.nes.1
              have hds : ¬ db = s := fun e => P7.dn (Or.inr (Or.inl e))
              have hml := P7.mb.laid.lt
              have hdl := P7.deed.lt
              have HP7 : Hid (ZD w (W7) z n hi m s t kk cs ct ck L6 gs M gs db #[.int .i64 dw, .int .i64 ds, .int .i64 o, .int .i64 f2] G) := P7
              clear P7 HP6 hdr
              go_region_held3 (fun w' => w'.cell? ⟨m, 0, none⟩ = some (.slice (some ⟨s, 0, none⟩) M.length cs) ∧ w'.cell? ⟨db, 2, none⟩ = some (.int .i64 o) ∧ w'.cell? ⟨db, 3, none⟩ = some (.int .i64 f2)) (go_keep) (first | (go_at_call 18; refine hT.mono ?_; rintro e w8 ⟨rfl, M8, K8, E8⟩; have y0 := E8 m 0 hms hml; have y2 := E8 db 2 hds hdl; have y3 := E8 db 3 hds hdl))
              have HE : Hid (ZE w z n hi m s t kk cs ct ck w8) := ⟨L6, gs, _, (HP7.out.mod M8 ((setK_len _ _ _ _).trans HML.out) K8).back HC6.out⟩
              clear hT M8 K8 E8 HP7 y0 y2 y3 d2 d3 m0
              go_wp2_with fail
              go_meet
              exact ⟨Or.inl ⟨rfl, rfl⟩, HE⟩
            · as_aux_lemma =>
              have HALL : Hid (¬ allB L (f2, o) true) := hall
              clear hall
              go_wp2_with fail
              refine hK.mono ?_
              rintro e w6 ⟨-, h6⟩
              obtain ⟨rfl, O6, S6⟩ := h6 HALL.out
              have P6 := HP3.out.op O6 S6
              obtain ⟨d0, d1, d2, d3⟩ := P6.cells
              obtain ⟨m0, -, -⟩ := P6.mb.cells
              have hA6 := fun k => hAl (w6.drewN k) (P6.mb.below (below_drewN (Below.refl _ _) k)) false ⟨fun e => (by cases e), fun e => absurd ((allB_M HCV.out (f2, o) true).2 e) HALL.out⟩
              have HP6 : Hid (ZD w w6 z n hi m s t kk cs ct ck L gs M gs db #[.int .i64 dw, .int .i64 ds, .int .i64 o, .int .i64 f2] G) := P6
              clear hK hAl P6 O6 S6 HP3 h6
              go_upto_region 40 with fail
              go_quiet (first | (go_at_call 17; exact Calls.quiet_of_same (hA6 _)))
              have HE : Hid (ZE w z n hi m s t kk cs ct ck (w6.drewN nq)) := ⟨L, gs, M, (HP6.out.below (below_drewN (Below.refl _ _) nq)).back HCV.out⟩
              clear hA6 d0 d1 d2 d3 m0 HP6
              go_wp2_with fail
              go_meet
              exact ⟨Or.inr (Or.inr (Or.inr ⟨rfl, rfl⟩)), HE⟩
        · cases hob : ob with
          | false =>
            as_aux_lemma =>
            have hh : 3 < dor ∨ hasB n df dor = false := by
              have h1 := HOB.out
              rw [hob, HML.out] at h1
              by_cases h2 : dor ≤ 3
              · rw [decide_eq_true h2, Bool.true_and] at h1
                exact Or.inr h1.symm
              · exact Or.inl (by omega)
            subst hob
            have hK := HP3.out.zn.giveNo df dor hdf hh
            clear hh m0 m1 m2 HOB
            go_wp2_with fail
            refine hK.mono ?_
            rintro e w6 ⟨rfl, O6, S6⟩
            have P6 := HP3.out.op O6 S6
            have HE : Hid (ZE w z n hi m s t kk cs ct ck w6) := ⟨L, gs, M, P6.back HCV.out⟩
            clear hK P6 O6 S6 HP3 d0 d1 d2 d3
            go_wp2_with fail
            go_meet
            exact ⟨Or.inr (Or.inl ⟨rfl, rfl⟩), HE⟩
          | true =>
            have hh : dor ≤ 3 ∧ hasB M.length df dor = true := by
              have h1 := HOB.out
              rw [hob] at h1
              have h2 := h1.symm
              rw [Bool.and_eq_true, decide_eq_true_eq] at h2
              exact h2
            subst hob
            obtain ⟨h3, hh⟩ := hh
            obtain ⟨f2, o, rfl, rfl, hab, hbe⟩ := hasB_nat hh
            have h3' : o ≤ 3 := by omega
            have HAB : Hid (alB (f2, o) ∧ bend (f2, o) ≤ M.length) := ⟨hab, hbe⟩
            have hK := HP3.out.zn.give (f2, o) hab h3' (by rw [← HML.out]; exact hbe)
            have hAl := fun w' (h : MB hi w' m s t kk cs ct ck M gs) (r : Bool) hr => refAll_any h.rs (by have := HML.out; omega) (f2, o) (by show o ≤ 5; omega) hbe false r hr
            simp only at hAl
            clear hh hab hbe m0 m1 m2 HOB
            by_cases hall : allB L (f2, o) false
            · as_aux_lemma =>
              have HALL : Hid (allB L (f2, o) false) := hall
              clear hall
              go_wp2_with fail
              refine hK.mono ?_
              rintro e w6 ⟨h6, -⟩
              obtain ⟨rfl, L6, O6, S6, cv6⟩ := h6 HALL.out
              have P6 := HP3.out.op O6 S6
              obtain ⟨d0, d1, d2, d3⟩ := P6.cells
              obtain ⟨m0, -, -⟩ := P6.mb.cells
              have hA6 := fun k => hAl (w6.drewN k) (P6.mb.below (below_drewN (Below.refl _ _) k)) true ⟨fun _ => (allB_M HCV.out (f2, o) false).1 HALL.out, fun _ => rfl⟩
              have HC6 : Hid (∀ x, covB L6 x = (setK M f2 (2 ^ o) true).getD x false) := cov_on (b := (f2, o)) HP3.out.zn.ok HML.out (by rw [← HML.out]; exact HAB.out.2) HCV.out cv6
              have HP6 : Hid (ZD w w6 z n hi m s t kk cs ct ck L6 gs M gs db #[.int .i64 dw, .int .i64 ds, .int .i64 o, .int .i64 f2] G) := P6
              clear hK hAl P6 O6 S6 HP3 h6 cv6
              go_upto_region 47 with fail
              go_quiet (first | (go_at_call 17; exact Calls.quiet_of_same (hA6 _)))
              clear hA6 d0 d1 d2 d3 m0
              go_upto_region 49 with fail
              go_name_world W7 hW7
              have P7 : ZD w W7 z n hi m s t kk cs ct ck L6 gs M gs db #[.int .i64 dw, .int .i64 ds, .int .i64 o, .int .i64 f2] G := by rw [← hW7]; exact HP6.out.below (below_drewN (Below.refl _ _) nq)
              clear hW7
              obtain ⟨-, -, d2, d3⟩ := P7.cells
              obtain ⟨m0, -, -⟩ := P7.mb.cells
              have hdr : Below (W7).heap.size (W7) (W7).drew := (Below.refl _ _).drew
              have hT := rt_tail (P7.mb.below hdr) (Keeps.of_below hdr _) (by have := HML.out; omega) (f := f2) (show o ≤ 5 by omega) HAB.out.2 true
              have hms : ¬ m = s := P7.mb.nes.1
              have hds : ¬ db = s := fun e => P7.dn (Or.inr (Or.inl e))
              have hml := P7.mb.laid.lt
              have hdl := P7.deed.lt
              have HP7 : Hid (ZD w (W7) z n hi m s t kk cs ct ck L6 gs M gs db #[.int .i64 dw, .int .i64 ds, .int .i64 o, .int .i64 f2] G) := P7
              clear P7 HP6 hdr
              go_region_held3 (fun w' => w'.cell? ⟨m, 0, none⟩ = some (.slice (some ⟨s, 0, none⟩) M.length cs) ∧ w'.cell? ⟨db, 2, none⟩ = some (.int .i64 o) ∧ w'.cell? ⟨db, 3, none⟩ = some (.int .i64 f2)) (go_keep) (first | (go_at_call 18; refine hT.mono ?_; rintro e w8 ⟨rfl, M8, K8, E8⟩; have y0 := E8 m 0 hms hml; have y2 := E8 db 2 hds hdl; have y3 := E8 db 3 hds hdl))
              have HE : Hid (ZE w z n hi m s t kk cs ct ck w8) := ⟨L6, gs, _, (HP7.out.mod M8 ((setK_len _ _ _ _).trans HML.out) K8).back HC6.out⟩
              clear hT M8 K8 E8 HP7 y0 y2 y3 d2 d3 m0
              go_wp2_with fail
              go_meet
              exact ⟨Or.inl ⟨rfl, rfl⟩, HE⟩
            · as_aux_lemma =>
              have HALL : Hid (¬ allB L (f2, o) false) := hall
              clear hall
              go_wp2_with fail
              refine hK.mono ?_
              rintro e w6 ⟨-, h6⟩
              obtain ⟨rfl, O6, S6⟩ := h6 HALL.out
              have P6 := HP3.out.op O6 S6
              obtain ⟨d0, d1, d2, d3⟩ := P6.cells
              obtain ⟨m0, -, -⟩ := P6.mb.cells
              have hA6 := fun k => hAl (w6.drewN k) (P6.mb.below (below_drewN (Below.refl _ _) k)) false ⟨fun e => (by cases e), fun e => absurd ((allB_M HCV.out (f2, o) false).2 e) HALL.out⟩
              have HP6 : Hid (ZD w w6 z n hi m s t kk cs ct ck L gs M gs db #[.int .i64 dw, .int .i64 ds, .int .i64 o, .int .i64 f2] G) := P6
              clear hK hAl P6 O6 S6 HP3 h6
              go_upto_region 47 with fail
              go_quiet (first | (go_at_call 17; exact Calls.quiet_of_same (hA6 _)))
              have HE : Hid (ZE w z n hi m s t kk cs ct ck (w6.drewN nq)) := ⟨L, gs, M, (HP6.out.below (below_drewN (Below.refl _ _) nq)).back HCV.out⟩
              clear hA6 d0 d1 d2 d3 m0 HP6
              go_wp2_with fail
              go_meet
              exact ⟨Or.inr (Or.inr (Or.inr ⟨rfl, rfl⟩)), HE⟩
        · cases hgb : gb with
          | false =>
            as_aux_lemma =>
            have hh : ¬ (0 ≤ df ∧ df < (gs.length : Int)) := by
              have h1 := HGB.out
              rw [hgb] at h1
              exact of_decide_eq_false h1.symm
            subst hgb
            have hK := HP3.out.zn.closeNo df hh
            clear hh m0 m1 m2 HGB
            go_wp2_with fail
            refine hK.mono ?_
            rintro e w6 ⟨rfl, O6, S6⟩
            have P6 := HP3.out.op O6 S6
            have HE : Hid (ZE w z n hi m s t kk cs ct ck w6) := ⟨L, gs, M, P6.back HCV.out⟩
            clear hK P6 O6 S6 HP3 d0 d1 d2 d3
            go_wp2_with fail
            go_meet
            exact ⟨Or.inr (Or.inl ⟨rfl, rfl⟩), HE⟩
          | true =>
            have hh : 0 ≤ df ∧ df < (gs.length : Int) := by
              have h1 := HGB.out
              rw [hgb] at h1
              exact of_decide_eq_true h1.symm
            subst hgb
            obtain ⟨gi, rfl⟩ : ∃ gi : Nat, df = gi := ⟨df.toNat, by omega⟩
            have hgi : gi < gs.length := by omega
            have HGI : Hid (gi < gs.length) := hgi
            have hgz : (gi : Int) < (gs.length : Int) := by omega
            cases hcl : (gs.getD gi (0, false)).2 with
            | true =>
              as_aux_lemma =>
              have HCL : Hid ((gs.getD gi (0, false)).2 = true) := hcl
              have hK := HP3.out.zn.closeIs gi hgi hcl
              clear hh m0 m1 m2 HGB hcl hgi
              go_wp2_with fail
              refine hK.mono ?_
              rintro e w6 ⟨rfl, O6, S6⟩
              have P6 := HP3.out.op O6 S6
              obtain ⟨-, -, -, d3⟩ := P6.cells
              obtain ⟨-, -, m2⟩ := P6.mb.cells
              obtain ⟨-, g1, -, -⟩ := P6.mb.grp HGI.out
              rw [HCL.out] at g1
              have HP6 : Hid (ZD w w6 z n hi m s t kk cs ct ck L gs M gs db #[.int .i64 dw, .int .i64 ds, .int .i64 dor, .int .i64 gi] G) := P6
              clear hK P6 O6 S6 HP3 d0 d1 d2
              go_upto_region 54 with fail
              go_quiet (fail)
              have HE : Hid (ZE w z n hi m s t kk cs ct ck (w6.drewN nq)) := ⟨L, gs, M, (HP6.out.below (below_drewN (Below.refl _ _) nq)).back HCV.out⟩
              clear d3 m2 g1 HP6
              go_wp2_with fail
              go_meet
              exact ⟨Or.inr (Or.inr (Or.inr ⟨rfl, rfl⟩)), HE⟩
            | false =>
              as_aux_lemma =>
              have HCL : Hid ((gs.getD gi (0, false)).2 = false) := hcl
              have hK := HP3.out.zn.close gi hgi hcl
              clear hh m0 m1 m2 HGB hcl hgi
              go_wp2_with fail
              refine hK.mono ?_
              rintro e w6 ⟨rfl, O6, S6⟩
              have P6 := HP3.out.op O6 S6
              obtain ⟨-, -, -, d3⟩ := P6.cells
              obtain ⟨-, -, m2⟩ := P6.mb.cells
              obtain ⟨-, g1, -, -⟩ := P6.mb.grp HGI.out
              rw [HCL.out] at g1
              have HP6 : Hid (ZD w w6 z n hi m s t kk cs ct ck L (closeG gs gi) M gs db #[.int .i64 dw, .int .i64 ds, .int .i64 dor, .int .i64 gi] G) := P6
              clear hK P6 O6 S6 HP3 d0 d1 d2
              go_upto_region 54 with fail
              go_quiet (fail)
              clear d3 m2 g1
              go_upto_region 56 with fail
              go_name_world W7 hW7
              have P7 : ZD w W7 z n hi m s t kk cs ct ck L (closeG gs gi) M gs db #[.int .i64 dw, .int .i64 ds, .int .i64 dor, .int .i64 gi] G := by rw [← hW7]; exact HP6.out.below (below_drewN (Below.refl _ _) nq)
              clear hW7
              obtain ⟨-, -, -, d3⟩ := P7.cells
              obtain ⟨-, -, m2⟩ := P7.mb.cells
              obtain ⟨-, g1, -, gf⟩ := P7.mb.grp HGI.out
              have gfi := gf gi
              have hkl := (P7.mb.lt kk (Or.inr (Or.inr (Or.inr rfl)))).2
              have P8 : ZD w (W7.setCell ⟨kk, gi, none⟩ (.bool true)) z n hi m s t kk cs ct ck L (closeG gs gi) M (closeG gs gi) db #[.int .i64 dw, .int .i64 ds, .int .i64 dor, .int .i64 gi] G := P7.mod (P7.mb.setK gi true HGI.out) HML.out ((Keeps.set _ kk _ _).mono fun b _ e => Or.inr (Or.inr (Or.inr e)))
              have HE : Hid (∀ W, Below (W7.setCell ⟨kk, gi, none⟩ (.bool true)).heap.size (W7.setCell ⟨kk, gi, none⟩ (.bool true)) W → ZE w z n hi m s t kk cs ct ck W) := fun W hb => ⟨L, closeG gs gi, M, (P8.below hb).back HCV.out⟩
              have x1 : (W7.setCell ⟨kk, gi, none⟩ (.bool true)).cell? ⟨m, 2, none⟩ = some (.slice (some ⟨kk, 0, none⟩) gs.length ck) := (P8.mb.laid.cell 2).trans (by unfold closeG; rw [List.length_set]; rfl)
              have x2 : (W7.setCell ⟨kk, gi, none⟩ (.bool true)).cell? ⟨db, 3, none⟩ = some (.int .i64 gi) := P8.cells.2.2.2
              clear P7 P8 HP6 gf
              go_region_held3 (fun w' => w'.cell? ⟨m, 2, none⟩ = some (.slice (some ⟨kk, 0, none⟩) gs.length ck) ∧ w'.cell? ⟨db, 3, none⟩ = some (.int .i64 gi)) (go_keep) (fail)
              clear d3 m2 g1 gfi x1 x2
              go_wp2_with fail
              go_meet
              exact ⟨Or.inl ⟨rfl, rfl⟩, HE.out _ (Below.refl _ _).drew⟩
        · cases hgb : gb with
          | false =>
            as_aux_lemma =>
            have hh : ¬ (0 ≤ df ∧ df < (gs.length : Int)) := by
              have h1 := HGB.out
              rw [hgb] at h1
              exact of_decide_eq_false h1.symm
            subst hgb
            have hK := HP3.out.zn.openNo df hh
            clear hh m0 m1 m2 HGB
            go_wp2_with fail
            refine hK.mono ?_
            rintro e w6 ⟨rfl, O6, S6⟩
            have P6 := HP3.out.op O6 S6
            have HE : Hid (ZE w z n hi m s t kk cs ct ck w6) := ⟨L, gs, M, P6.back HCV.out⟩
            clear hK P6 O6 S6 HP3 d0 d1 d2 d3
            go_wp2_with fail
            go_meet
            exact ⟨Or.inr (Or.inl ⟨rfl, rfl⟩), HE⟩
          | true =>
            have hh : 0 ≤ df ∧ df < (gs.length : Int) := by
              have h1 := HGB.out
              rw [hgb] at h1
              exact of_decide_eq_true h1.symm
            subst hgb
            obtain ⟨gi, rfl⟩ : ∃ gi : Nat, df = gi := ⟨df.toNat, by omega⟩
            have hgi : gi < gs.length := by omega
            have HGI : Hid (gi < gs.length) := hgi
            have hgz : (gi : Int) < (gs.length : Int) := by omega
            cases hcl : (gs.getD gi (0, false)).2 with
            | false =>
              as_aux_lemma =>
              have HCL : Hid ((gs.getD gi (0, false)).2 = false) := hcl
              have hK := HP3.out.zn.openIs gi hgi hcl
              clear hh m0 m1 m2 HGB hcl hgi
              go_wp2_with fail
              refine hK.mono ?_
              rintro e w6 ⟨rfl, O6, S6⟩
              have P6 := HP3.out.op O6 S6
              obtain ⟨-, -, -, d3⟩ := P6.cells
              obtain ⟨-, -, m2⟩ := P6.mb.cells
              obtain ⟨-, g1, -, -⟩ := P6.mb.grp HGI.out
              rw [HCL.out] at g1
              have HP6 : Hid (ZD w w6 z n hi m s t kk cs ct ck L gs M gs db #[.int .i64 dw, .int .i64 ds, .int .i64 dor, .int .i64 gi] G) := P6
              clear hK P6 O6 S6 HP3 d0 d1 d2
              go_upto_region 19 with fail
              go_quiet (fail)
              have HE : Hid (ZE w z n hi m s t kk cs ct ck (w6.drewN nq)) := ⟨L, gs, M, (HP6.out.below (below_drewN (Below.refl _ _) nq)).back HCV.out⟩
              clear d3 m2 g1 HP6
              go_wp2_with fail
              go_meet
              exact ⟨Or.inr (Or.inr (Or.inr ⟨rfl, rfl⟩)), HE⟩
            | true =>
              as_aux_lemma =>
              have HCL : Hid ((gs.getD gi (0, false)).2 = true) := hcl
              obtain ⟨r, hr⟩ : ∃ r : Bool, r = true ↔ grpFree L n gi := by
                by_cases h : grpFree L n gi
                · exact ⟨true, fun _ => h, fun _ => rfl⟩
                · exact ⟨false, fun e => (by cases e), fun e => absurd e h⟩
              have hK := HP3.out.zn.open gi hgi hcl r hr
              have hr2 : r = true ↔ ∀ x, gi * 8 ≤ x → x < min ((gi + 1) * 8) M.length → M.getD x false = true := by
                rw [hr, HML.out]
                unfold grpFree
                constructor
                · intro h x h1 h2
                  rw [← HCV.out x]
                  exact (covB_iff _ _).2 (h x h1 h2)
                · intro h x h1 h2
                  exact (covB_iff _ _).1 ((HCV.out x).trans (h x h1 h2))
              have hRO := fun w' (h : MB hi w' m s t kk cs ct ck M gs) => refOpen_any h (by have := HML.out; omega) gi hgi HL6.out.1 r hr2
              clear hh m0 m1 m2 HGB hcl hgi hr hr2
              go_wp2_with fail
              refine hK.mono ?_
              rintro e w6 ⟨rfl, O6, S6⟩
              have P6 := HP3.out.op O6 S6
              obtain ⟨-, -, -, d3⟩ := P6.cells
              obtain ⟨-, -, m2⟩ := P6.mb.cells
              obtain ⟨-, g1, -, -⟩ := P6.mb.grp HGI.out
              rw [HCL.out] at g1
              have HP6 : Hid (ZD w w6 z n hi m s t kk cs ct ck L (openG gs gi r) M gs db #[.int .i64 dw, .int .i64 ds, .int .i64 dor, .int .i64 gi] G) := P6
              clear hK P6 O6 S6 HP3 d0 d1 d2
              go_upto_region 19 with fail
              go_quiet (fail)
              have P7 := HP6.out.below (below_drewN (Below.refl _ _) nq)
              clear d3 m2 g1
              have hR7 := hRO (w6.drewN nq) P7.mb
              obtain ⟨-, -, -, d3⟩ := P7.cells
              have HP7 : Hid (ZD w (w6.drewN nq) z n hi m s t kk cs ct ck L (openG gs gi r) M gs db #[.int .i64 dw, .int .i64 ds, .int .i64 dor, .int .i64 gi] G) := P7
              clear P7 HP6 hRO
              go_wp2_with fail
              refine hR7.mono ?_
              rintro e w8 ⟨rfl, M8, K8⟩
              have HE : Hid (ZE w z n hi m s t kk cs ct ck w8) := ⟨L, openG gs gi r, M, (HP7.out.mod M8 HML.out K8).back HCV.out⟩
              clear hR7 M8 K8 HP7 d3
              go_wp2_with fail
              go_meet
              exact ⟨Or.inl ⟨rfl, rfl⟩, HE⟩
      case rest =>
      obtain ⟨hrt, HE⟩ := hcut
      clear d0 d1 d2 d3 m0 m1 m2 HP3 HOB HGB HCV hmc hg6 hM7
      obtain ⟨L9, gs9, M9, Q9⟩ := HE.out
      have HQ : Hid (ZQ w wc z n hi m s t kk cs ct ck L9 gs9 M9) := Q9
      have hSm := HQ.out.same
      have e1 := eq_err 1
      have e5 := eq_err 5
      have e7 := eq_err 7
      clear Q9 HE
      apply_assumption
      rcases hrt with ⟨rfl, rfl⟩ | ⟨rfl, rfl⟩ | ⟨rfl, rfl⟩ | ⟨rfl, rfl⟩
      all_goals
        as_aux_lemma =>
        go_wp2_with fail
        refine hSm.mono ?_
        rintro e w9 ⟨rfl, Q9⟩
        have HQ9 : Hid (ZQ w w9 z n hi m s t kk cs ct ck L9 gs9 M9) := Q9
        clear hSm Q9 HQ e1 e5 e7
        go_wp2
        go_roundw
        case rel => exact ⟨k + 1, _, _, _, by omega, by omega, by go_num, HQ9⟩
        case measure => simp only [intOf]; omega
    · have hx : (¬ (k : Int) < (len : Int)) ∨ ((k : Int) < (len : Int) ∧ ¬ (k : Int) < 60) := by omega
      have HF : Hid (Below w.heap.size w wr) := hfr
      clear hlt hk hk8 HL hfr HI
      rcases hx with h1 | ⟨h1, h2⟩
      all_goals
        go_wp2
        go_ret
        exact ⟨rfl, HF.out⟩
end Go.Proofs.YtmmbfgkfidconaaDoor
