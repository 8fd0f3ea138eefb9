/- Own texts, joined: FSm. -/
import Derived.Test.YtoimmapdkapheaaJH
/- 'same' of the law's: where both are one, it tells so. -/
namespace Go.Proofs.Ytoimmapdkapheaa
set_option maxRecDepth 4000
open Go.RowKit

/-- The cells on the way to a space's pages, in all worlds behind. -/
theorem Two.cells {w : World} {p q : Nat} {A : Wd} {T : Sps} {v : Value} (h : Two w p q A T v) {i : Nat} (hi : i < T.length) :
    ∃ g c gp cp, ∀ W, Below w.heap.size w W → W.cell? ⟨q, 0, none⟩ = some (.slice (some ⟨g, 0, none⟩) T.length c) ∧ W.cell? ⟨g, i * 3 + 1, none⟩ = some (.slice (some ⟨gp, 0, none⟩) 4096 cp) ∧ Row rAPg 0 W (.slice (some ⟨gp, 0, none⟩) 4096 cp) (pagesA (T.getD i zT).2.f) := by
  obtain ⟨_, ⟨G2, h2⟩, h3⟩ := h
  obtain ⟨g, c, hv, hlt, hat⟩ := fm_at h2 hi
  obtain ⟨s1, -⟩ := fm_see h2 hi
  refine ⟨g, c, _, _, fun W hb => ⟨(hb.cell (FmX.box h2).lt).trans (by rw [(FmX.box h2).cell, hv]; rfl), (rSp.at (hat.same (hb.block _ hlt))).2.1, s1.below hb⟩⟩
/-- What the innermost round asks, told in one. -/
theorem Two.word' {w : World} {p q : Nat} {A : Wd} {T : Sps} {v : Value} (h : Two w p q A T v) {i : Nat} {n pg j code : Int} {s : Sp} (hi : i < T.length) (hn : (T.getD i zT).1.n = n) (hs : A n = some s) (hd : AtD A n pg j code) :
    ((code = 1 ∨ code = 3) ∧ ldV A n pg j code = 0) ∨ (code = 0 ∧ ∃ (g c gw cw k r : Nat), pg = k ∧ j = r ∧ k < 4096 ∧ r < 8 ∧ ∀ W, Below w.heap.size w W → W.cell? ⟨q, 0, none⟩ = some (.slice (some ⟨g, 0, none⟩) T.length c) ∧ W.cell? ⟨g, i * 3 + 2, none⟩ = some (.slice (some ⟨gw, 0, none⟩) 4096 cw) ∧ W.cell? ⟨gw, k * 8 + r, none⟩ = some (.int .u64 (ldV A n pg j code))) := by
  by_cases hc : code = 0
  · subst hc
    obtain ⟨g, c, gw, cw, k, r, rfl, rfl, h1, h2, c0, c1, c2⟩ := h.word hi hn hs hd
    obtain ⟨_, ⟨G2, h3⟩, _⟩ := h
    have l0 := (FmX.box h3).lt
    obtain ⟨g', c', hv, hlt, hat⟩ := fm_at h3 hi
    have e0 : w.cell? ⟨q, 0, none⟩ = some v := by rw [(FmX.box h3).cell]; rfl
    rw [e0] at c0
    rw [hv] at c0
    cases c0
    obtain ⟨-, s2⟩ := fm_see h3 hi
    have e1 := (rSp.at hat).2.2
    rw [c1] at e1
    have e2 : (T.getD i zT).1.gw = gw := by
      have := Option.some.inj e1
      simp [SpV.vw] at this
      exact this.1.symm
    have l2 := (s2.lt (T.getD i zT).1.gw rfl).2
    rw [e2] at l2
    refine Or.inr ⟨rfl, g, c, gw, cw, k, r, rfl, rfl, h1, h2, fun W hb => ⟨(hb.cell l0).trans (e0.trans (by rw [hv])), (hb.cell hlt).trans c1, (hb.cell l2).trans c2⟩⟩
  · refine Or.inl ⟨?_, by unfold ldV; rw [if_neg hc]⟩
    rcases hd with ⟨_, rfl⟩ | ⟨_, _, ⟨_, rfl⟩ | ⟨_, _, _, rfl⟩ | ⟨_, _, _, rfl⟩⟩ <;> simp at hc ⊢

set_option maxRecDepth 100000 in
set_option maxHeartbeats 16000000 in
theorem same_any {F : Nat → Prop} {w : World} {p q : Nat} {A : Wd} (h : ((FlT p A).and (FmT q A)).In F w) {gP cP : Nat} {P : List Int} (hP : gP < w.heap.size) (hPl : P.length ≤ 8) (hPc : ∀ k, k < P.length → w.cell? ⟨gP, k, none⟩ = some (.int .i64 (P.getD k 0))) :
    Calls Try.prog 11 #[.pointer (some ⟨p, 0, none⟩), .pointer (some ⟨q, 0, none⟩), .slice (some ⟨gP, 0, none⟩) P.length cP] w fun e w' => e = .returned (.bool true) ∧ Hid (Below w.heap.size w w') := by
  obtain ⟨T, v, h2⟩ := two_of h
  have HT : Hid (Two w p q A T v) := h2
  have hsp := spaces_any (show ∃ G, (FlT p A).In G w from h2.fl).choose_spec
  obtain ⟨G2, hm⟩ := h2.fm
  obtain ⟨ao, cT, rfl⟩ := (FmX.row hm).form
  rw [heads_len] at *
  have c0 : w.cell? ⟨q, 0, none⟩ = some (.slice ao T.length cT) := by rw [(FmX.box hm).cell]; rfl
  have lq := (FmX.box hm).lt
  have HPC : Hid (∀ k, k < P.length → w.cell? ⟨gP, k, none⟩ = some (.int .i64 (P.getD k 0))) := hPc
  have HPP : Hid (gP < w.heap.size) := hP
  have HFE : Hid (T.length ≤ 255) := h2.ok.few
  have HOK : Hid A.ok := h2.ok.ok
  clear h h2 hm hPc hP
  go_enter Try.func11, Try.ntmps11
  go_wp2_with fail
  refine hsp.mono ?_
  rintro e w1 ⟨v1, ss, rfl, hrow, hrise, hmem, hfew, hb1⟩
  obtain ⟨a1, c1, rfl⟩ := hrow.form
  have hsl := same_len HT.out.ok hrise hmem
  have x0 : w1.cell? ⟨q, 0, none⟩ = some (.slice ao T.length cT) := (hb1.cell lq).trans c0
  have HB1 : Hid (Below w.heap.size w w1) := hb1
  have HR1 : Hid (Row rNm w.heap.size w1 (.slice a1 ss.length c1) ss) := hrow
  have HRI : Hid (ss.Pairwise (fun a b => a < b)) := hrise
  have HME : Hid (∀ n, n ∈ ss ↔ A n ≠ none) := hmem
  have hsl9 : ss.length ≤ 9223372036854775807 := by omega
  have HSL : Hid (ss.length = T.length) := hsl
  rw [← hsl] at x0
  clear hsp hrow hrise hmem hfew hb1 c0 hsl
  go_wp2
  go_loopw [8] (fun iv W => ∃ k : Nat, k ≤ ss.length ∧ iv = .int .i64 k ∧ Hid (Below w1.heap.size w1 W)) (fun iv _ => ss.length - (intOf iv).toNat)
  case atStart => exact ⟨0, Nat.zero_le _, rfl, Below.refl _ _⟩
  case round =>
    obtain ⟨k, hk, rfl, HBk⟩ := hrel
    by_cases hks : k < ss.length
    · have hksz : (k : Int) < (ss.length : Int) := by omega
      have hk0 : (0 : Int) ≤ (k : Int) := by omega
      obtain ⟨g1, rfl, hg1, y0⟩ := nm_at HR1.out hks
      have hAn : A (ss.getD k 0) ≠ none := (HME.out _).1 (by rw [List.getD_eq_getElem?_getD, List.getElem?_eq_getElem hks]; exact List.getElem_mem hks)
      obtain ⟨s, hs⟩ := Option.ne_none_iff_exists'.1 hAn
      have HTW := HT.out.below (below_call' HB1.out HBk.out)
      obtain ⟨i, hi, hin, his⟩ := lk_mem (T := T) (by rw [HTW.ok.eq]; exact hs)
      have hn := (HOK.out _ _ hs).1
      have hoI : okI (ss.getD k 0) := ⟨by have := hn.1; omega, by have := hn.2; omega⟩
      have HN : Hid (A (ss.getD k 0) = some s ∧ okI (ss.getD k 0) ∧ i < T.length ∧ (T.getD i zT).1.n = ss.getD k 0 ∧ (T.getD i zT).2 = s) := ⟨hs, hoI, hi, hin, his⟩
      have y1 : wr.cell? ⟨g1, k, none⟩ = some (.int .i64 (ss.getD k 0)) := (HBk.out.cell hg1).trans y0
      have HY : Hid (∀ W, Below w1.heap.size w1 W → W.cell? ⟨g1, k, none⟩ = some (.int .i64 (ss.getD k 0))) := fun W hb => (hb.cell hg1).trans y0
      have hfi := HTW.find hi hin
      have hp1 : ¬ (i : Int) < 0 := by omega
      have hrs : 0 < k → wr.cell? ⟨g1, k - 1, none⟩ = some (.int .i64 (ss.getD (k - 1) 0)) ∧ ss.getD (k - 1) 0 < ss.getD k 0 := fun h => by
        obtain ⟨g', e', -, yy⟩ := nm_at HR1.out (show k - 1 < ss.length by omega)
        cases e'
        exact ⟨(HBk.out.cell hg1).trans yy, rise_at HRI.out h hks⟩
      generalize hnn : ss.getD k 0 = nn at *
      clear HTW hs hoI hi hin his hn hAn y0 hg1
      go_wp2_with fail
      refine hfi.mono ?_
      rintro e w2 ⟨rfl, hw⟩
      obtain rfl := hw.symm
      clear hw hfi
      go_upto_region 8 with fail
      go_cut [63] from 46 to 63 (fun s63 wx => s63 = .bool false ∧ Hid (Below wr.heap.size wr wx))
      case first =>
        clear HY HN HBk HB1 HR1 HRI HME HSL HOK HFE HPP HPC HT
        by_cases h0 : k = 0
        · have hb1 : decide ((i : Int) < 0) = false := by simp
          have hb3 : decide (0 < k) = false := by simp; omega
          clear hrs hp1 h0 hk0 hksz hks hk
          go_wp2_with fail
          go_quiet (fail)
          go_wp2
          go_meet
          exact ⟨rfl, below_drewN (Below.refl _ _) _⟩
        · obtain ⟨z0, z1⟩ := hrs (by omega)
          obtain ⟨km, hkm⟩ : ∃ km : Nat, k - 1 = km := ⟨_, rfl⟩
          rw [hkm] at z0 z1
          have hkw : IntKind.i64.wrap ((k : Int) - 1) = (km : Int) := by
            rw [show (k : Int) - 1 = (km : Int) by omega]
            exact IntWalk.i64_in _ (by omega)
          have hk1 : (0 : Int) < (k : Int) := by omega
          have hkm1 : (km : Int) < (ss.length : Int) := by omega
          have hkm0 : (0 : Int) ≤ (km : Int) := by omega
          generalize ss.getD km 0 = mm at *
          have hge : decide (nn ≤ mm) = false := by simpa using z1
          have hb1 : decide ((i : Int) < 0) = false := by simp
          have hb3 : decide (0 < k) = true := by simp; omega
          clear hrs h0 hkm hp1 z1 hk1 hks hk
          go_wp2_with fail
          go_quiet (fail)
          go_wp2
          go_meet
          exact ⟨rfl, below_drewN (Below.refl _ _) _⟩
      case rest =>
        obtain ⟨rfl, HBX⟩ := hcut
        have HAr : Hid (∀ W, Below wr.heap.size wr W → Calls Try.prog 20 #[.pointer (some ⟨p, 0, none⟩), .int .i64 nn] W (ArP W (some s))) := fun W hb => by
          have := (HT.out.below (below_call' HB1.out (below_call' HBk.out hb))).areas HN.out.2.1
          rwa [HN.out.1] at this
        have HY0 : Hid (∀ W, Below wr.heap.size wr W → W.cell? ⟨g1, k, none⟩ = some (.int .i64 nn)) := fun W hb => HY.out W (below_call' HBk.out hb)
        have HPC0 : Hid (∀ m, m < P.length → ∀ W, Below wr.heap.size wr W → W.cell? ⟨gP, m, none⟩ = some (.int .i64 (P.getD m 0))) := fun m hm W hb => ((below_call' HB1.out (below_call' HBk.out hb)).cell HPP.out).trans (HPC.out m hm)
        have HTW : Hid (Two wr p q A T (.slice ao T.length cT)) := HT.out.below (below_call' HB1.out HBk.out)
        obtain ⟨gh, ch, gp, cp, hcel⟩ := HTW.out.cells HN.out.2.2.1
        rw [HN.out.2.2.2.2] at hcel
        have HCE : Hid _ := hcel
        have hil : (i : Int) < (T.length : Int) := by have := HN.out.2.2.1; omega
        have hy := HY0.out _ HBX.out
        clear hcel hrs y1 hp1
        go_wp2_with fail
        refine (HAr.out _ HBX.out).mono ?_
        rintro e w4 ⟨a4, c4, M, hM, hM64, rfl, HRM, HB4⟩
        have HBY : Hid (Below wr.heap.size wr w4) := below_call' HBX.out HB4.out
        obtain ⟨u0, u1, u2⟩ := HCE.out _ HBY.out
        have hto := to_any (c := cp) u2.sn hM
        rw [show decide (M.length ≤ 64) = true by simpa using hM64] at hto
        have HM64 : Hid (M.length ≤ 64) := hM64
        clear u2 hM hM64 HAr hy
        go_wp2_with fail
        refine hto.mono ?_
        rintro e w5 ⟨v5, rfl, hr5, hb5⟩
        obtain ⟨a5, c5, rfl⟩ := hr5.form
        have hsm := same_self (c1 := c4) (c2 := c5) (HRM.out.below hb5).sn hr5.sn (by have := HM64.out; unfold maxLen; omega)
        have HBZ : Hid (Below wr.heap.size wr w5) := below_call' HBY.out hb5
        clear hto hr5 hb5 u0 u1
        go_wp2_with fail
        refine hsm.mono ?_
        rintro e w6 ⟨rfl, hb6⟩
        have HB6 : Hid (Below wr.heap.size wr w6) := below_call' HBZ.out hb6
        have hPl9 : P.length ≤ 9223372036854775807 := by omega
        have HY6 : Hid (∀ W, Below w6.heap.size w6 W → W.cell? ⟨g1, k, none⟩ = some (.int .i64 nn)) := fun W hb => HY0.out W (below_call' HB6.out hb)
        have HP6 : Hid (∀ m, m < P.length → ∀ W, Below w6.heap.size w6 W → W.cell? ⟨gP, m, none⟩ = some (.int .i64 (P.getD m 0))) := fun m hm W hb => HPC0.out m hm W (below_call' HB6.out hb)
        have HT6 : Hid (Two w6 p q A T (.slice ao T.length cT)) := HTW.out.below HB6.out
        have HKW : Hid (∀ W, Below w6.heap.size w6 W → Below w1.heap.size w1 W) := fun W hb => below_call' HBk.out (below_call' HB6.out hb)
        clear hsm hb6 HBZ HBY HB4 HRM HY0 HPC0 HTW HCE HBX HY
        go_wp2
        go_loopw [14] (fun iv W => ∃ m : Nat, m ≤ P.length ∧ iv = .int .i64 m ∧ Hid (Below w6.heap.size w6 W)) (fun iv _ => P.length - (intOf iv).toNat)
        case atStart => exact ⟨0, Nat.zero_le _, rfl, Below.refl _ _⟩
        case round =>
          obtain ⟨m, hm, rfl, HBm⟩ := hrel
          by_cases hmP : m < P.length
          · have hmPz : (m : Int) < (P.length : Int) := by omega
            have hm0 : (0 : Int) ≤ (m : Int) := by omega
            have HPG : Hid (∀ W, Below w6.heap.size w6 W → W.cell? ⟨gP, m, none⟩ = some (.int .i64 (P.getD m 0))) := HP6.out m hmP
            generalize P.getD m 0 = pg at *
            clear hmP hm
            go_wp2
            go_loopw [15] (fun iv W => ∃ j : Int, -1 ≤ j ∧ j ≤ 9 ∧ iv = .int .i64 j ∧ Hid (Below w6.heap.size w6 W)) (fun iv _ => (9 - intOf iv).toNat)
            case atStart => exact ⟨-1, by omega, by omega, rfl, HBm⟩
            case round =>
              obtain ⟨j, hj1, hj2, rfl, HBj⟩ := hrel
              by_cases hj9 : j < 9
              · obtain ⟨code, hat⟩ := at_ex A nn pg j
                have hcd := hat.code
                have HLd : Hid (∀ W, Below w6.heap.size w6 W → Calls Try.prog 16 #[.pointer (some ⟨p, 0, none⟩), .int .i64 nn, .int .i64 pg, .int .i64 j] W fun e w' => e = .returned (.tuple #[.int .u64 (ldV A nn pg j code), errV code]) ∧ (w'.cell? ⟨g1, k, none⟩ = some (.int .i64 nn) ∧ w'.cell? ⟨gP, m, none⟩ = some (.int .i64 pg)) ∧ Hid (Below w6.heap.size w6 w')) := fun W hb =>
                  ((HT6.out.below hb).load HN.out.2.1 hat).mono fun e w' hp => ⟨hp.1, ⟨HY6.out _ (below_call' hb hp.2.out), HPG.out _ (below_call' hb hp.2.out)⟩, below_call' hb hp.2.out⟩
                have HAt : Hid (∀ W, Below w6.heap.size w6 W → Calls Try.prog 33 #[.pointer (some ⟨q, 0, none⟩), .int .i64 nn, .int .i64 pg, .int .i64 j] W (AtE W i code)) := fun W hb => (HT6.out.below hb).at HN.out.2.2.1 HN.out.2.2.2.1 hat
                have hwd := HT6.out.word' HN.out.2.2.1 HN.out.2.2.2.1 HN.out.1 hat
                have hce := fun w => code_err code w hcd
                have y0 := HY6.out _ HBj.out
                have y1 := HPG.out _ HBj.out
                generalize errV code = ev at *
                generalize ldV A nn pg j code = lv at *
                clear hat hcd
                go_wp2_with fail
                go_region_held3 (fun w' => w'.cell? ⟨g1, k, none⟩ = some (.int .i64 nn) ∧ w'.cell? ⟨gP, m, none⟩ = some (.int .i64 pg)) (go_keep) (first | (go_at_call 16; refine (HLd.out _ ?q1).mono ?_; (case q1 => first | exact HBj.out | exact HBj.out.drew); rintro e w7 ⟨rfl, ⟨y2, y3⟩, HB7⟩))
                clear HLd y0 y1
                rcases hwd with ⟨hc, rfl⟩ | ⟨rfl, gg, gc, gw, cw, kk, r, rfl, rfl, hk4, hr8, hwc⟩
                · have hc0 : code ≠ 0 := by omega
                  have HAt' : Hid (∀ W, Below w6.heap.size w6 W → Calls Try.prog 33 #[.pointer (some ⟨q, 0, none⟩), .int .i64 nn, .int .i64 pg, .int .i64 j] W fun e w' => e = .returned (.tuple #[.int .i64 0, .int .i64 code]) ∧ w' = W) := fun W hb => (HAt.out W hb).mono fun e w' hp => ⟨by have := hp.1; rwa [if_neg hc0] at this, hp.2⟩
                  clear HAt hc0
                  rcases hc with rfl | rfl
                  · go_wp2_with fail
                    go_region_held3 (fun w' => w'.cell? ⟨g1, k, none⟩ = some (.int .i64 nn) ∧ w'.cell? ⟨gP, m, none⟩ = some (.int .i64 pg)) (go_keep) (first | (go_at_call 33; refine (HAt'.out _ ?q2).mono ?_; (case q2 => first | exact HB7.out | exact HB7.out.drew); rintro e w8 ⟨rfl, rfl⟩))
                    clear y2 y3
                    go_wp2_with fail
                    refine wp_region_X (fun _ => True) [] (by kernel_rfl) ?_
                    have hHeld : True := trivial
                    refine wpAnyX_take (i := 0) (v := ?v0b) rfl (by kernel_rfl) (by kernel_rfl) (by kernel_rfl) (by kernel_rfl) (by kernel_rfl) (fun _ _ _ h => h) (Or.inl ⟨by rfl, ?hy0b⟩) hHeld ?rest0b
                    case hy0b => intro w hSw; (try dsimp only at hSw); go_simp; try with_reducible rfl
                    case rest0b =>
                    simp only [Act.put, List.setIfInBounds_toArray, List.set_cons_zero, List.set_cons_succ, List.getElem_toArray, List.getElem_cons_zero]
                    refine wpAnyX_take (i := 2) (v := ?v2b) rfl (by kernel_rfl) (by kernel_rfl) (by kernel_rfl) (by kernel_rfl) (by kernel_rfl) (fun _ _ _ h => h) (Or.inl ⟨by rfl, ?hy2b⟩) hHeld ?rest2b
                    case hy2b => intro w hSw; (try dsimp only at hSw); go_simp; try with_reducible rfl
                    case rest2b =>
                    simp only [Act.put, List.setIfInBounds_toArray, List.set_cons_zero, List.set_cons_succ, List.getElem_toArray, List.getElem_cons_zero, List.getElem_cons_succ]
                    refine wpAnyX_one (i := 1) (by kernel_rfl) rfl (fun K hK => ?_)
                    go_simp
                    refine (hce _).mono ?_
                    rintro e w9 ⟨rfl, rfl⟩
                    refine hK.out _ _ trivial ?_
                    clear hK K
                    refine wpAnyX_take (i := 3) (v := ?v3b) rfl (by kernel_rfl) (by kernel_rfl) (by kernel_rfl) (by kernel_rfl) (by kernel_rfl) (fun _ _ _ h => h) (Or.inl ⟨by rfl, ?hy3b⟩) hHeld ?rest3b
                    case hy3b => intro w hSw; (try dsimp only at hSw); go_simp; try with_reducible rfl
                    case rest3b =>
                    simp only [Act.put, List.setIfInBounds_toArray, List.set_cons_zero, List.set_cons_succ, List.getElem_toArray, List.getElem_cons_zero, List.getElem_cons_succ]
                    refine wpAnyX_take (i := 4) (v := ?v4b) rfl (by kernel_rfl) (by kernel_rfl) (by kernel_rfl) (by kernel_rfl) (by kernel_rfl) (fun _ _ _ h => h) (Or.inl ⟨by rfl, ?hy4b⟩) hHeld ?rest4b
                    case hy4b => intro w hSw; (try dsimp only at hSw); go_simp; try with_reducible rfl
                    case rest4b =>
                    simp only [Act.put, List.setIfInBounds_toArray, List.set_cons_zero, List.set_cons_succ, List.getElem_toArray, List.getElem_cons_zero, List.getElem_cons_succ]
                    refine wpAnyX_take (i := 5) (v := ?v5b) rfl (by kernel_rfl) (by kernel_rfl) (by kernel_rfl) (by kernel_rfl) (by kernel_rfl) (fun _ _ _ h => h) (Or.inl ⟨by rfl, ?hy5b⟩) hHeld ?rest5b
                    case hy5b => intro w hSw; (try dsimp only at hSw); go_simp; try with_reducible rfl
                    case rest5b =>
                    simp only [Act.put, List.setIfInBounds_toArray, List.set_cons_zero, List.set_cons_succ, List.getElem_toArray, List.getElem_cons_zero, List.getElem_cons_succ]
                    refine wpAnyX_take (i := 6) (v := ?v6b) rfl (by kernel_rfl) (by kernel_rfl) (by kernel_rfl) (by kernel_rfl) (by kernel_rfl) (fun _ _ _ h => h) (Or.inl ⟨by rfl, ?hy6b⟩) hHeld ?rest6b
                    case hy6b => intro w hSw; (try dsimp only at hSw); go_simp; try with_reducible rfl
                    case rest6b =>
                    simp only [Act.put, List.setIfInBounds_toArray, List.set_cons_zero, List.set_cons_succ, List.getElem_toArray, List.getElem_cons_zero, List.getElem_cons_succ]
                    refine wpAnyX_take (i := 7) (v := ?v7b) rfl (by kernel_rfl) (by kernel_rfl) (by kernel_rfl) (by kernel_rfl) (by kernel_rfl) (fun _ _ _ h => h) (Or.inl ⟨by rfl, ?hy7b⟩) hHeld ?rest7b
                    case hy7b => intro w hSw; (try dsimp only at hSw); go_simp; try with_reducible rfl
                    case rest7b =>
                    simp only [Act.put, List.setIfInBounds_toArray, List.set_cons_zero, List.set_cons_succ, List.getElem_toArray, List.getElem_cons_zero, List.getElem_cons_succ]
                    refine wpAnyX_take (i := 8) (v := undef) rfl (by kernel_rfl) (by kernel_rfl) (by kernel_rfl) (by kernel_rfl) (by kernel_rfl) (fun _ _ _ h => h) (Or.inr ⟨by rfl, rfl⟩) hHeld ?rests8b
                    case rests8b =>
                    simp only [Act.put, List.setIfInBounds_toArray, List.set_cons_zero, List.set_cons_succ, List.getElem_toArray, List.getElem_cons_zero, List.getElem_cons_succ]
                    refine wpAnyX_take (i := 9) (v := undef) rfl (by kernel_rfl) (by kernel_rfl) (by kernel_rfl) (by kernel_rfl) (by kernel_rfl) (fun _ _ _ h => h) (Or.inr ⟨by rfl, rfl⟩) hHeld ?rests9b
                    case rests9b =>
                    simp only [Act.put, List.setIfInBounds_toArray, List.set_cons_zero, List.set_cons_succ, List.getElem_toArray, List.getElem_cons_zero, List.getElem_cons_succ]
                    refine wpAnyX_take (i := 10) (v := undef) rfl (by kernel_rfl) (by kernel_rfl) (by kernel_rfl) (by kernel_rfl) (by kernel_rfl) (fun _ _ _ h => h) (Or.inr ⟨by rfl, rfl⟩) hHeld ?rests10b
                    case rests10b =>
                    simp only [Act.put, List.setIfInBounds_toArray, List.set_cons_zero, List.set_cons_succ, List.getElem_toArray, List.getElem_cons_zero, List.getElem_cons_succ]
                    refine wpAnyX_take (i := 11) (v := undef) rfl (by kernel_rfl) (by kernel_rfl) (by kernel_rfl) (by kernel_rfl) (by kernel_rfl) (fun _ _ _ h => h) (Or.inr ⟨by rfl, rfl⟩) hHeld ?rests11b
                    case rests11b =>
                    simp only [Act.put, List.setIfInBounds_toArray, List.set_cons_zero, List.set_cons_succ, List.getElem_toArray, List.getElem_cons_zero, List.getElem_cons_succ]
                    refine wpAnyX_take (i := 12) (v := undef) rfl (by kernel_rfl) (by kernel_rfl) (by kernel_rfl) (by kernel_rfl) (by kernel_rfl) (fun _ _ _ h => h) (Or.inr ⟨by rfl, rfl⟩) hHeld ?rests12b
                    case rests12b =>
                    simp only [Act.put, List.setIfInBounds_toArray, List.set_cons_zero, List.set_cons_succ, List.getElem_toArray, List.getElem_cons_zero, List.getElem_cons_succ]
                    refine wpAnyX_take (i := 13) (v := undef) rfl (by kernel_rfl) (by kernel_rfl) (by kernel_rfl) (by kernel_rfl) (by kernel_rfl) (fun _ _ _ h => h) (Or.inr ⟨by rfl, rfl⟩) hHeld ?rests13b
                    case rests13b =>
                    simp only [Act.put, List.setIfInBounds_toArray, List.set_cons_zero, List.set_cons_succ, List.getElem_toArray, List.getElem_cons_zero, List.getElem_cons_succ]
                    refine wpAnyX_take (i := 14) (v := undef) rfl (by kernel_rfl) (by kernel_rfl) (by kernel_rfl) (by kernel_rfl) (by kernel_rfl) (fun _ _ _ h => h) (Or.inr ⟨by rfl, rfl⟩) hHeld ?rests14b
                    case rests14b =>
                    simp only [Act.put, List.setIfInBounds_toArray, List.set_cons_zero, List.set_cons_succ, List.getElem_toArray, List.getElem_cons_zero, List.getElem_cons_succ]
                    refine wpAnyX_take (i := 15) (v := undef) rfl (by kernel_rfl) (by kernel_rfl) (by kernel_rfl) (by kernel_rfl) (by kernel_rfl) (fun _ _ _ h => h) (Or.inr ⟨by rfl, rfl⟩) hHeld ?rests15b
                    case rests15b =>
                    simp only [Act.put, List.setIfInBounds_toArray, List.set_cons_zero, List.set_cons_succ, List.getElem_toArray, List.getElem_cons_zero, List.getElem_cons_succ]
                    refine wpAnyX_take (i := 16) (v := undef) rfl (by kernel_rfl) (by kernel_rfl) (by kernel_rfl) (by kernel_rfl) (by kernel_rfl) (fun _ _ _ h => h) (Or.inr ⟨by rfl, rfl⟩) hHeld ?rests16b
                    case rests16b =>
                    simp only [Act.put, List.setIfInBounds_toArray, List.set_cons_zero, List.set_cons_succ, List.getElem_toArray, List.getElem_cons_zero, List.getElem_cons_succ]
                    refine wpAnyX_take (i := 17) (v := undef) rfl (by kernel_rfl) (by kernel_rfl) (by kernel_rfl) (by kernel_rfl) (by kernel_rfl) (fun _ _ _ h => h) (Or.inr ⟨by rfl, rfl⟩) hHeld ?rests17b
                    case rests17b =>
                    simp only [Act.put, List.setIfInBounds_toArray, List.set_cons_zero, List.set_cons_succ, List.getElem_toArray, List.getElem_cons_zero, List.getElem_cons_succ]
                    refine wpAnyX_take (i := 18) (v := undef) rfl (by kernel_rfl) (by kernel_rfl) (by kernel_rfl) (by kernel_rfl) (by kernel_rfl) (fun _ _ _ h => h) (Or.inr ⟨by rfl, rfl⟩) hHeld ?rests18b
                    case rests18b =>
                    simp only [Act.put, List.setIfInBounds_toArray, List.set_cons_zero, List.set_cons_succ, List.getElem_toArray, List.getElem_cons_zero, List.getElem_cons_succ]
                    refine wpAnyX_take (i := 19) (v := undef) rfl (by kernel_rfl) (by kernel_rfl) (by kernel_rfl) (by kernel_rfl) (by kernel_rfl) (fun _ _ _ h => h) (Or.inr ⟨by rfl, rfl⟩) hHeld ?rests19b
                    case rests19b =>
                    simp only [Act.put, List.setIfInBounds_toArray, List.set_cons_zero, List.set_cons_succ, List.getElem_toArray, List.getElem_cons_zero, List.getElem_cons_succ]
                    refine wpAnyX_take (i := 20) (v := undef) rfl (by kernel_rfl) (by kernel_rfl) (by kernel_rfl) (by kernel_rfl) (by kernel_rfl) (fun _ _ _ h => h) (Or.inr ⟨by rfl, rfl⟩) hHeld ?rests20b
                    case rests20b =>
                    simp only [Act.put, List.setIfInBounds_toArray, List.set_cons_zero, List.set_cons_succ, List.getElem_toArray, List.getElem_cons_zero, List.getElem_cons_succ]
                    refine wpAnyX_take (i := 21) (v := undef) rfl (by kernel_rfl) (by kernel_rfl) (by kernel_rfl) (by kernel_rfl) (by kernel_rfl) (fun _ _ _ h => h) (Or.inr ⟨by rfl, rfl⟩) hHeld ?rests21b
                    case rests21b =>
                    simp only [Act.put, List.setIfInBounds_toArray, List.set_cons_zero, List.set_cons_succ, List.getElem_toArray, List.getElem_cons_zero, List.getElem_cons_succ]
                    refine wpAnyX_take (i := 22) (v := undef) rfl (by kernel_rfl) (by kernel_rfl) (by kernel_rfl) (by kernel_rfl) (by kernel_rfl) (fun _ _ _ h => h) (Or.inr ⟨by rfl, rfl⟩) hHeld ?rests22b
                    case rests22b =>
                    simp only [Act.put, List.setIfInBounds_toArray, List.set_cons_zero, List.set_cons_succ, List.getElem_toArray, List.getElem_cons_zero, List.getElem_cons_succ]
                    refine wpAnyX_take (i := 23) (v := undef) rfl (by kernel_rfl) (by kernel_rfl) (by kernel_rfl) (by kernel_rfl) (by kernel_rfl) (fun _ _ _ h => h) (Or.inr ⟨by rfl, rfl⟩) hHeld ?rests23b
                    case rests23b =>
                    simp only [Act.put, List.setIfInBounds_toArray, List.set_cons_zero, List.set_cons_succ, List.getElem_toArray, List.getElem_cons_zero, List.getElem_cons_succ]
                    refine wpAnyX_take (i := 24) (v := undef) rfl (by kernel_rfl) (by kernel_rfl) (by kernel_rfl) (by kernel_rfl) (by kernel_rfl) (fun _ _ _ h => h) (Or.inr ⟨by rfl, rfl⟩) hHeld ?rests24b
                    case rests24b =>
                    simp only [Act.put, List.setIfInBounds_toArray, List.set_cons_zero, List.set_cons_succ, List.getElem_toArray, List.getElem_cons_zero, List.getElem_cons_succ]
                    refine wpAnyX_take (i := 25) (v := undef) rfl (by kernel_rfl) (by kernel_rfl) (by kernel_rfl) (by kernel_rfl) (by kernel_rfl) (fun _ _ _ h => h) (Or.inr ⟨by rfl, rfl⟩) hHeld ?rests25b
                    case rests25b =>
                    simp only [Act.put, List.setIfInBounds_toArray, List.set_cons_zero, List.set_cons_succ, List.getElem_toArray, List.getElem_cons_zero, List.getElem_cons_succ]
                    refine wpAnyX_take (i := 26) (v := ?v26b) rfl (by kernel_rfl) (by kernel_rfl) (by kernel_rfl) (by kernel_rfl) (by kernel_rfl) (fun _ _ _ h => h) (Or.inl ⟨by rfl, ?hy26b⟩) hHeld ?rest26b
                    case hy26b => intro w hSw; (try dsimp only at hSw); go_simp; try with_reducible rfl
                    case rest26b =>
                    simp only [Act.put, List.setIfInBounds_toArray, List.set_cons_zero, List.set_cons_succ, List.getElem_toArray, List.getElem_cons_zero, List.getElem_cons_succ]
                    refine wpAnyX_take (i := 27) (v := ?v27b) rfl (by kernel_rfl) (by kernel_rfl) (by kernel_rfl) (by kernel_rfl) (by kernel_rfl) (fun _ _ _ h => h) (Or.inl ⟨by rfl, ?hy27b⟩) hHeld ?rest27b
                    case hy27b => intro w hSw; (try dsimp only at hSw); go_simp; try with_reducible rfl
                    case rest27b =>
                    simp only [Act.put, List.setIfInBounds_toArray, List.set_cons_zero, List.set_cons_succ, List.getElem_toArray, List.getElem_cons_zero, List.getElem_cons_succ]
                    refine wpAnyX_take (i := 28) (v := ?v28b) rfl (by kernel_rfl) (by kernel_rfl) (by kernel_rfl) (by kernel_rfl) (by kernel_rfl) (fun _ _ _ h => h) (Or.inl ⟨by rfl, ?hy28b⟩) hHeld ?rest28b
                    case hy28b => intro w hSw; (try dsimp only at hSw); go_simp; try with_reducible rfl
                    case rest28b =>
                    simp only [Act.put, List.setIfInBounds_toArray, List.set_cons_zero, List.set_cons_succ, List.getElem_toArray, List.getElem_cons_zero, List.getElem_cons_succ]
                    refine wpAnyX_take (i := 29) (v := ?v29b) rfl (by kernel_rfl) (by kernel_rfl) (by kernel_rfl) (by kernel_rfl) (by kernel_rfl) (fun _ _ _ h => h) (Or.inl ⟨by rfl, ?hy29b⟩) hHeld ?rest29b
                    case hy29b => intro w hSw; (try dsimp only at hSw); go_simp; try with_reducible rfl
                    case rest29b =>
                    simp only [Act.put, List.setIfInBounds_toArray, List.set_cons_zero, List.set_cons_succ, List.getElem_toArray, List.getElem_cons_zero, List.getElem_cons_succ]
                    refine wpAnyX_take (i := 30) (v := ?v30b) rfl (by kernel_rfl) (by kernel_rfl) (by kernel_rfl) (by kernel_rfl) (by kernel_rfl) (fun _ _ _ h => h) (Or.inl ⟨by rfl, ?hy30b⟩) hHeld ?rest30b
                    case hy30b => intro w hSw; (try dsimp only at hSw); go_simp; try with_reducible rfl
                    case rest30b =>
                    simp only [Act.put, List.setIfInBounds_toArray, List.set_cons_zero, List.set_cons_succ, List.getElem_toArray, List.getElem_cons_zero, List.getElem_cons_succ]
                    refine wpAnyX_take (i := 31) (v := ?v31b) rfl (by kernel_rfl) (by kernel_rfl) (by kernel_rfl) (by kernel_rfl) (by kernel_rfl) (fun _ _ _ h => h) (Or.inl ⟨by rfl, ?hy31b⟩) hHeld ?rest31b
                    case hy31b => intro w hSw; (try dsimp only at hSw); go_simp; try with_reducible rfl
                    case rest31b =>
                    simp only [Act.put, List.setIfInBounds_toArray, List.set_cons_zero, List.set_cons_succ, List.getElem_toArray, List.getElem_cons_zero, List.getElem_cons_succ]
                    refine wpAnyX_take (i := 32) (v := ?v32b) rfl (by kernel_rfl) (by kernel_rfl) (by kernel_rfl) (by kernel_rfl) (by kernel_rfl) (fun _ _ _ h => h) (Or.inl ⟨by rfl, ?hy32b⟩) hHeld ?rest32b
                    case hy32b => intro w hSw; (try dsimp only at hSw); go_simp; try with_reducible rfl
                    case rest32b =>
                    simp only [Act.put, List.setIfInBounds_toArray, List.set_cons_zero, List.set_cons_succ, List.getElem_toArray, List.getElem_cons_zero, List.getElem_cons_succ]
                    refine wpAnyX_take (i := 33) (v := ?v33b) rfl (by kernel_rfl) (by kernel_rfl) (by kernel_rfl) (by kernel_rfl) (by kernel_rfl) (fun _ _ _ h => h) (Or.inl ⟨by rfl, ?hy33b⟩) hHeld ?rest33b
                    case hy33b => intro w hSw; (try dsimp only at hSw); go_simp; try with_reducible rfl
                    case rest33b =>
                    simp only [Act.put, List.setIfInBounds_toArray, List.set_cons_zero, List.set_cons_succ, List.getElem_toArray, List.getElem_cons_zero, List.getElem_cons_succ]
                    refine wpAnyX_take (i := 34) (v := ?v34b) rfl (by kernel_rfl) (by kernel_rfl) (by kernel_rfl) (by kernel_rfl) (by kernel_rfl) (fun _ _ _ h => h) (Or.inl ⟨by rfl, ?hy34b⟩) hHeld ?rest34b
                    case hy34b => intro w hSw; (try dsimp only at hSw); go_simp; try with_reducible rfl
                    case rest34b =>
                    simp only [Act.put, List.setIfInBounds_toArray, List.set_cons_zero, List.set_cons_succ, List.getElem_toArray, List.getElem_cons_zero, List.getElem_cons_succ]
                    refine wpAnyX_take (i := 35) (v := ?v35b) rfl (by kernel_rfl) (by kernel_rfl) (by kernel_rfl) (by kernel_rfl) (by kernel_rfl) (fun _ _ _ h => h) (Or.inl ⟨by rfl, ?hy35b⟩) hHeld ?rest35b
                    case hy35b => intro w hSw; (try dsimp only at hSw); go_simp; try with_reducible rfl
                    case rest35b =>
                    simp only [Act.put, List.setIfInBounds_toArray, List.set_cons_zero, List.set_cons_succ, List.getElem_toArray, List.getElem_cons_zero, List.getElem_cons_succ]
                    refine wpAnyX_done (by kernel_rfl) ?_ _
                    go_wp2
                    go_roundw
                    case rel => exact ⟨j + 1, by omega, by omega, by go_num, HB7.out.drew.drew⟩
                    case measure => simp only [intOf]; omega
                  · go_wp2_with fail
                    go_region_held3 (fun w' => w'.cell? ⟨g1, k, none⟩ = some (.int .i64 nn) ∧ w'.cell? ⟨gP, m, none⟩ = some (.int .i64 pg)) (go_keep) (first | (go_at_call 33; refine (HAt'.out _ ?q2).mono ?_; (case q2 => first | exact HB7.out | exact HB7.out.drew); rintro e w8 ⟨rfl, rfl⟩))
                    clear y2 y3
                    go_wp2_with fail
                    refine wp_region_X (fun _ => True) [] (by kernel_rfl) ?_
                    have hHeld : True := trivial
                    refine wpAnyX_take (i := 0) (v := ?v0c) rfl (by kernel_rfl) (by kernel_rfl) (by kernel_rfl) (by kernel_rfl) (by kernel_rfl) (fun _ _ _ h => h) (Or.inl ⟨by rfl, ?hy0c⟩) hHeld ?rest0c
                    case hy0c => intro w hSw; (try dsimp only at hSw); go_simp; try with_reducible rfl
                    case rest0c =>
                    simp only [Act.put, List.setIfInBounds_toArray, List.set_cons_zero, List.set_cons_succ, List.getElem_toArray, List.getElem_cons_zero]
                    refine wpAnyX_take (i := 2) (v := ?v2c) rfl (by kernel_rfl) (by kernel_rfl) (by kernel_rfl) (by kernel_rfl) (by kernel_rfl) (fun _ _ _ h => h) (Or.inl ⟨by rfl, ?hy2c⟩) hHeld ?rest2c
                    case hy2c => intro w hSw; (try dsimp only at hSw); go_simp; try with_reducible rfl
                    case rest2c =>
                    simp only [Act.put, List.setIfInBounds_toArray, List.set_cons_zero, List.set_cons_succ, List.getElem_toArray, List.getElem_cons_zero, List.getElem_cons_succ]
                    refine wpAnyX_one (i := 1) (by kernel_rfl) rfl (fun K hK => ?_)
                    go_simp
                    refine (hce _).mono ?_
                    rintro e w9 ⟨rfl, rfl⟩
                    refine hK.out _ _ trivial ?_
                    clear hK K
                    refine wpAnyX_take (i := 3) (v := ?v3c) rfl (by kernel_rfl) (by kernel_rfl) (by kernel_rfl) (by kernel_rfl) (by kernel_rfl) (fun _ _ _ h => h) (Or.inl ⟨by rfl, ?hy3c⟩) hHeld ?rest3c
                    case hy3c => intro w hSw; (try dsimp only at hSw); go_simp; try with_reducible rfl
                    case rest3c =>
                    simp only [Act.put, List.setIfInBounds_toArray, List.set_cons_zero, List.set_cons_succ, List.getElem_toArray, List.getElem_cons_zero, List.getElem_cons_succ]
                    refine wpAnyX_take (i := 4) (v := ?v4c) rfl (by kernel_rfl) (by kernel_rfl) (by kernel_rfl) (by kernel_rfl) (by kernel_rfl) (fun _ _ _ h => h) (Or.inl ⟨by rfl, ?hy4c⟩) hHeld ?rest4c
                    case hy4c => intro w hSw; (try dsimp only at hSw); go_simp; try with_reducible rfl
                    case rest4c =>
                    simp only [Act.put, List.setIfInBounds_toArray, List.set_cons_zero, List.set_cons_succ, List.getElem_toArray, List.getElem_cons_zero, List.getElem_cons_succ]
                    refine wpAnyX_take (i := 5) (v := ?v5c) rfl (by kernel_rfl) (by kernel_rfl) (by kernel_rfl) (by kernel_rfl) (by kernel_rfl) (fun _ _ _ h => h) (Or.inl ⟨by rfl, ?hy5c⟩) hHeld ?rest5c
                    case hy5c => intro w hSw; (try dsimp only at hSw); go_simp; try with_reducible rfl
                    case rest5c =>
                    simp only [Act.put, List.setIfInBounds_toArray, List.set_cons_zero, List.set_cons_succ, List.getElem_toArray, List.getElem_cons_zero, List.getElem_cons_succ]
                    refine wpAnyX_take (i := 6) (v := ?v6c) rfl (by kernel_rfl) (by kernel_rfl) (by kernel_rfl) (by kernel_rfl) (by kernel_rfl) (fun _ _ _ h => h) (Or.inl ⟨by rfl, ?hy6c⟩) hHeld ?rest6c
                    case hy6c => intro w hSw; (try dsimp only at hSw); go_simp; try with_reducible rfl
                    case rest6c =>
                    simp only [Act.put, List.setIfInBounds_toArray, List.set_cons_zero, List.set_cons_succ, List.getElem_toArray, List.getElem_cons_zero, List.getElem_cons_succ]
                    refine wpAnyX_take (i := 7) (v := ?v7c) rfl (by kernel_rfl) (by kernel_rfl) (by kernel_rfl) (by kernel_rfl) (by kernel_rfl) (fun _ _ _ h => h) (Or.inl ⟨by rfl, ?hy7c⟩) hHeld ?rest7c
                    case hy7c => intro w hSw; (try dsimp only at hSw); go_simp; try with_reducible rfl
                    case rest7c =>
                    simp only [Act.put, List.setIfInBounds_toArray, List.set_cons_zero, List.set_cons_succ, List.getElem_toArray, List.getElem_cons_zero, List.getElem_cons_succ]
                    refine wpAnyX_take (i := 8) (v := undef) rfl (by kernel_rfl) (by kernel_rfl) (by kernel_rfl) (by kernel_rfl) (by kernel_rfl) (fun _ _ _ h => h) (Or.inr ⟨by rfl, rfl⟩) hHeld ?rests8c
                    case rests8c =>
                    simp only [Act.put, List.setIfInBounds_toArray, List.set_cons_zero, List.set_cons_succ, List.getElem_toArray, List.getElem_cons_zero, List.getElem_cons_succ]
                    refine wpAnyX_take (i := 9) (v := undef) rfl (by kernel_rfl) (by kernel_rfl) (by kernel_rfl) (by kernel_rfl) (by kernel_rfl) (fun _ _ _ h => h) (Or.inr ⟨by rfl, rfl⟩) hHeld ?rests9c
                    case rests9c =>
                    simp only [Act.put, List.setIfInBounds_toArray, List.set_cons_zero, List.set_cons_succ, List.getElem_toArray, List.getElem_cons_zero, List.getElem_cons_succ]
                    refine wpAnyX_take (i := 10) (v := undef) rfl (by kernel_rfl) (by kernel_rfl) (by kernel_rfl) (by kernel_rfl) (by kernel_rfl) (fun _ _ _ h => h) (Or.inr ⟨by rfl, rfl⟩) hHeld ?rests10c
                    case rests10c =>
                    simp only [Act.put, List.setIfInBounds_toArray, List.set_cons_zero, List.set_cons_succ, List.getElem_toArray, List.getElem_cons_zero, List.getElem_cons_succ]
                    refine wpAnyX_take (i := 11) (v := undef) rfl (by kernel_rfl) (by kernel_rfl) (by kernel_rfl) (by kernel_rfl) (by kernel_rfl) (fun _ _ _ h => h) (Or.inr ⟨by rfl, rfl⟩) hHeld ?rests11c
                    case rests11c =>
                    simp only [Act.put, List.setIfInBounds_toArray, List.set_cons_zero, List.set_cons_succ, List.getElem_toArray, List.getElem_cons_zero, List.getElem_cons_succ]
                    refine wpAnyX_take (i := 12) (v := undef) rfl (by kernel_rfl) (by kernel_rfl) (by kernel_rfl) (by kernel_rfl) (by kernel_rfl) (fun _ _ _ h => h) (Or.inr ⟨by rfl, rfl⟩) hHeld ?rests12c
                    case rests12c =>
                    simp only [Act.put, List.setIfInBounds_toArray, List.set_cons_zero, List.set_cons_succ, List.getElem_toArray, List.getElem_cons_zero, List.getElem_cons_succ]
                    refine wpAnyX_take (i := 13) (v := undef) rfl (by kernel_rfl) (by kernel_rfl) (by kernel_rfl) (by kernel_rfl) (by kernel_rfl) (fun _ _ _ h => h) (Or.inr ⟨by rfl, rfl⟩) hHeld ?rests13c
                    case rests13c =>
                    simp only [Act.put, List.setIfInBounds_toArray, List.set_cons_zero, List.set_cons_succ, List.getElem_toArray, List.getElem_cons_zero, List.getElem_cons_succ]
                    refine wpAnyX_take (i := 14) (v := undef) rfl (by kernel_rfl) (by kernel_rfl) (by kernel_rfl) (by kernel_rfl) (by kernel_rfl) (fun _ _ _ h => h) (Or.inr ⟨by rfl, rfl⟩) hHeld ?rests14c
                    case rests14c =>
                    simp only [Act.put, List.setIfInBounds_toArray, List.set_cons_zero, List.set_cons_succ, List.getElem_toArray, List.getElem_cons_zero, List.getElem_cons_succ]
                    refine wpAnyX_take (i := 15) (v := undef) rfl (by kernel_rfl) (by kernel_rfl) (by kernel_rfl) (by kernel_rfl) (by kernel_rfl) (fun _ _ _ h => h) (Or.inr ⟨by rfl, rfl⟩) hHeld ?rests15c
                    case rests15c =>
                    simp only [Act.put, List.setIfInBounds_toArray, List.set_cons_zero, List.set_cons_succ, List.getElem_toArray, List.getElem_cons_zero, List.getElem_cons_succ]
                    refine wpAnyX_take (i := 16) (v := undef) rfl (by kernel_rfl) (by kernel_rfl) (by kernel_rfl) (by kernel_rfl) (by kernel_rfl) (fun _ _ _ h => h) (Or.inr ⟨by rfl, rfl⟩) hHeld ?rests16c
                    case rests16c =>
                    simp only [Act.put, List.setIfInBounds_toArray, List.set_cons_zero, List.set_cons_succ, List.getElem_toArray, List.getElem_cons_zero, List.getElem_cons_succ]
                    refine wpAnyX_take (i := 17) (v := undef) rfl (by kernel_rfl) (by kernel_rfl) (by kernel_rfl) (by kernel_rfl) (by kernel_rfl) (fun _ _ _ h => h) (Or.inr ⟨by rfl, rfl⟩) hHeld ?rests17c
                    case rests17c =>
                    simp only [Act.put, List.setIfInBounds_toArray, List.set_cons_zero, List.set_cons_succ, List.getElem_toArray, List.getElem_cons_zero, List.getElem_cons_succ]
                    refine wpAnyX_take (i := 18) (v := undef) rfl (by kernel_rfl) (by kernel_rfl) (by kernel_rfl) (by kernel_rfl) (by kernel_rfl) (fun _ _ _ h => h) (Or.inr ⟨by rfl, rfl⟩) hHeld ?rests18c
                    case rests18c =>
                    simp only [Act.put, List.setIfInBounds_toArray, List.set_cons_zero, List.set_cons_succ, List.getElem_toArray, List.getElem_cons_zero, List.getElem_cons_succ]
                    refine wpAnyX_take (i := 19) (v := undef) rfl (by kernel_rfl) (by kernel_rfl) (by kernel_rfl) (by kernel_rfl) (by kernel_rfl) (fun _ _ _ h => h) (Or.inr ⟨by rfl, rfl⟩) hHeld ?rests19c
                    case rests19c =>
                    simp only [Act.put, List.setIfInBounds_toArray, List.set_cons_zero, List.set_cons_succ, List.getElem_toArray, List.getElem_cons_zero, List.getElem_cons_succ]
                    refine wpAnyX_take (i := 20) (v := undef) rfl (by kernel_rfl) (by kernel_rfl) (by kernel_rfl) (by kernel_rfl) (by kernel_rfl) (fun _ _ _ h => h) (Or.inr ⟨by rfl, rfl⟩) hHeld ?rests20c
                    case rests20c =>
                    simp only [Act.put, List.setIfInBounds_toArray, List.set_cons_zero, List.set_cons_succ, List.getElem_toArray, List.getElem_cons_zero, List.getElem_cons_succ]
                    refine wpAnyX_take (i := 21) (v := undef) rfl (by kernel_rfl) (by kernel_rfl) (by kernel_rfl) (by kernel_rfl) (by kernel_rfl) (fun _ _ _ h => h) (Or.inr ⟨by rfl, rfl⟩) hHeld ?rests21c
                    case rests21c =>
                    simp only [Act.put, List.setIfInBounds_toArray, List.set_cons_zero, List.set_cons_succ, List.getElem_toArray, List.getElem_cons_zero, List.getElem_cons_succ]
                    refine wpAnyX_take (i := 22) (v := undef) rfl (by kernel_rfl) (by kernel_rfl) (by kernel_rfl) (by kernel_rfl) (by kernel_rfl) (fun _ _ _ h => h) (Or.inr ⟨by rfl, rfl⟩) hHeld ?rests22c
                    case rests22c =>
                    simp only [Act.put, List.setIfInBounds_toArray, List.set_cons_zero, List.set_cons_succ, List.getElem_toArray, List.getElem_cons_zero, List.getElem_cons_succ]
                    refine wpAnyX_take (i := 23) (v := undef) rfl (by kernel_rfl) (by kernel_rfl) (by kernel_rfl) (by kernel_rfl) (by kernel_rfl) (fun _ _ _ h => h) (Or.inr ⟨by rfl, rfl⟩) hHeld ?rests23c
                    case rests23c =>
                    simp only [Act.put, List.setIfInBounds_toArray, List.set_cons_zero, List.set_cons_succ, List.getElem_toArray, List.getElem_cons_zero, List.getElem_cons_succ]
                    refine wpAnyX_take (i := 24) (v := undef) rfl (by kernel_rfl) (by kernel_rfl) (by kernel_rfl) (by kernel_rfl) (by kernel_rfl) (fun _ _ _ h => h) (Or.inr ⟨by rfl, rfl⟩) hHeld ?rests24c
                    case rests24c =>
                    simp only [Act.put, List.setIfInBounds_toArray, List.set_cons_zero, List.set_cons_succ, List.getElem_toArray, List.getElem_cons_zero, List.getElem_cons_succ]
                    refine wpAnyX_take (i := 25) (v := undef) rfl (by kernel_rfl) (by kernel_rfl) (by kernel_rfl) (by kernel_rfl) (by kernel_rfl) (fun _ _ _ h => h) (Or.inr ⟨by rfl, rfl⟩) hHeld ?rests25c
                    case rests25c =>
                    simp only [Act.put, List.setIfInBounds_toArray, List.set_cons_zero, List.set_cons_succ, List.getElem_toArray, List.getElem_cons_zero, List.getElem_cons_succ]
                    refine wpAnyX_take (i := 26) (v := ?v26c) rfl (by kernel_rfl) (by kernel_rfl) (by kernel_rfl) (by kernel_rfl) (by kernel_rfl) (fun _ _ _ h => h) (Or.inl ⟨by rfl, ?hy26c⟩) hHeld ?rest26c
                    case hy26c => intro w hSw; (try dsimp only at hSw); go_simp; try with_reducible rfl
                    case rest26c =>
                    simp only [Act.put, List.setIfInBounds_toArray, List.set_cons_zero, List.set_cons_succ, List.getElem_toArray, List.getElem_cons_zero, List.getElem_cons_succ]
                    refine wpAnyX_take (i := 27) (v := ?v27c) rfl (by kernel_rfl) (by kernel_rfl) (by kernel_rfl) (by kernel_rfl) (by kernel_rfl) (fun _ _ _ h => h) (Or.inl ⟨by rfl, ?hy27c⟩) hHeld ?rest27c
                    case hy27c => intro w hSw; (try dsimp only at hSw); go_simp; try with_reducible rfl
                    case rest27c =>
                    simp only [Act.put, List.setIfInBounds_toArray, List.set_cons_zero, List.set_cons_succ, List.getElem_toArray, List.getElem_cons_zero, List.getElem_cons_succ]
                    refine wpAnyX_take (i := 28) (v := ?v28c) rfl (by kernel_rfl) (by kernel_rfl) (by kernel_rfl) (by kernel_rfl) (by kernel_rfl) (fun _ _ _ h => h) (Or.inl ⟨by rfl, ?hy28c⟩) hHeld ?rest28c
                    case hy28c => intro w hSw; (try dsimp only at hSw); go_simp; try with_reducible rfl
                    case rest28c =>
                    simp only [Act.put, List.setIfInBounds_toArray, List.set_cons_zero, List.set_cons_succ, List.getElem_toArray, List.getElem_cons_zero, List.getElem_cons_succ]
                    refine wpAnyX_take (i := 29) (v := ?v29c) rfl (by kernel_rfl) (by kernel_rfl) (by kernel_rfl) (by kernel_rfl) (by kernel_rfl) (fun _ _ _ h => h) (Or.inl ⟨by rfl, ?hy29c⟩) hHeld ?rest29c
                    case hy29c => intro w hSw; (try dsimp only at hSw); go_simp; try with_reducible rfl
                    case rest29c =>
                    simp only [Act.put, List.setIfInBounds_toArray, List.set_cons_zero, List.set_cons_succ, List.getElem_toArray, List.getElem_cons_zero, List.getElem_cons_succ]
                    refine wpAnyX_take (i := 30) (v := ?v30c) rfl (by kernel_rfl) (by kernel_rfl) (by kernel_rfl) (by kernel_rfl) (by kernel_rfl) (fun _ _ _ h => h) (Or.inl ⟨by rfl, ?hy30c⟩) hHeld ?rest30c
                    case hy30c => intro w hSw; (try dsimp only at hSw); go_simp; try with_reducible rfl
                    case rest30c =>
                    simp only [Act.put, List.setIfInBounds_toArray, List.set_cons_zero, List.set_cons_succ, List.getElem_toArray, List.getElem_cons_zero, List.getElem_cons_succ]
                    refine wpAnyX_take (i := 31) (v := ?v31c) rfl (by kernel_rfl) (by kernel_rfl) (by kernel_rfl) (by kernel_rfl) (by kernel_rfl) (fun _ _ _ h => h) (Or.inl ⟨by rfl, ?hy31c⟩) hHeld ?rest31c
                    case hy31c => intro w hSw; (try dsimp only at hSw); go_simp; try with_reducible rfl
                    case rest31c =>
                    simp only [Act.put, List.setIfInBounds_toArray, List.set_cons_zero, List.set_cons_succ, List.getElem_toArray, List.getElem_cons_zero, List.getElem_cons_succ]
                    refine wpAnyX_take (i := 32) (v := ?v32c) rfl (by kernel_rfl) (by kernel_rfl) (by kernel_rfl) (by kernel_rfl) (by kernel_rfl) (fun _ _ _ h => h) (Or.inl ⟨by rfl, ?hy32c⟩) hHeld ?rest32c
                    case hy32c => intro w hSw; (try dsimp only at hSw); go_simp; try with_reducible rfl
                    case rest32c =>
                    simp only [Act.put, List.setIfInBounds_toArray, List.set_cons_zero, List.set_cons_succ, List.getElem_toArray, List.getElem_cons_zero, List.getElem_cons_succ]
                    refine wpAnyX_take (i := 33) (v := ?v33c) rfl (by kernel_rfl) (by kernel_rfl) (by kernel_rfl) (by kernel_rfl) (by kernel_rfl) (fun _ _ _ h => h) (Or.inl ⟨by rfl, ?hy33c⟩) hHeld ?rest33c
                    case hy33c => intro w hSw; (try dsimp only at hSw); go_simp; try with_reducible rfl
                    case rest33c =>
                    simp only [Act.put, List.setIfInBounds_toArray, List.set_cons_zero, List.set_cons_succ, List.getElem_toArray, List.getElem_cons_zero, List.getElem_cons_succ]
                    refine wpAnyX_take (i := 34) (v := ?v34c) rfl (by kernel_rfl) (by kernel_rfl) (by kernel_rfl) (by kernel_rfl) (by kernel_rfl) (fun _ _ _ h => h) (Or.inl ⟨by rfl, ?hy34c⟩) hHeld ?rest34c
                    case hy34c => intro w hSw; (try dsimp only at hSw); go_simp; try with_reducible rfl
                    case rest34c =>
                    simp only [Act.put, List.setIfInBounds_toArray, List.set_cons_zero, List.set_cons_succ, List.getElem_toArray, List.getElem_cons_zero, List.getElem_cons_succ]
                    refine wpAnyX_take (i := 35) (v := ?v35c) rfl (by kernel_rfl) (by kernel_rfl) (by kernel_rfl) (by kernel_rfl) (by kernel_rfl) (fun _ _ _ h => h) (Or.inl ⟨by rfl, ?hy35c⟩) hHeld ?rest35c
                    case hy35c => intro w hSw; (try dsimp only at hSw); go_simp; try with_reducible rfl
                    case rest35c =>
                    simp only [Act.put, List.setIfInBounds_toArray, List.set_cons_zero, List.set_cons_succ, List.getElem_toArray, List.getElem_cons_zero, List.getElem_cons_succ]
                    refine wpAnyX_done (by kernel_rfl) ?_ _
                    go_wp2
                    go_roundw
                    case rel => exact ⟨j + 1, by omega, by omega, by go_num, HB7.out.drew.drew⟩
                    case measure => simp only [intOf]; omega
                · have HAt' : Hid (∀ W, Below w6.heap.size w6 W → Calls Try.prog 33 #[.pointer (some ⟨q, 0, none⟩), .int .i64 nn, .int .i64 kk, .int .i64 r] W fun e w' => e = .returned (.tuple #[.int .i64 i, .int .i64 0]) ∧ w' = W) := fun W hb => (HAt.out W hb).mono fun e w' hp => ⟨by have := hp.1; rwa [if_pos rfl] at this, hp.2⟩
                  obtain ⟨v0, v1, v2⟩ := hwc w7 HB7.out
                  have hkz : (kk : Int) < 4096 := by omega
                  have hrz : (r : Int) < 8 := by omega
                  have hn1 : (lv != lv) = false := by simp
                  clear HAt hwc
                  go_wp2_with fail
                  go_region_held3 (fun w' => w'.cell? ⟨g1, k, none⟩ = some (.int .i64 nn) ∧ w'.cell? ⟨gP, m, none⟩ = some (.int .i64 kk)) (go_keep) (first | (go_at_call 33; refine (HAt'.out _ ?q3).mono ?_; (case q3 => first | exact HB7.out | exact HB7.out.drew); rintro e w8 ⟨rfl, rfl⟩))
                  go_wp2_with fail
                  refine wp_region_X (fun W0 => W0.cell? ⟨q, 0, none⟩ = some (.slice (some ⟨gg, 0, none⟩) T.length gc) ∧ W0.cell? ⟨gg, i * 3 + 2, none⟩ = some (.slice (some ⟨gw, 0, none⟩) 4096 cw) ∧ W0.cell? ⟨gw, kk * 8 + r, none⟩ = some (.int .u64 lv) ∧ W0.cell? ⟨gP, m, none⟩ = some (.int .i64 kk)) [] (by kernel_rfl) ?_
                  have hHeld : w7.drew.drew.cell? ⟨q, 0, none⟩ = some (.slice (some ⟨gg, 0, none⟩) T.length gc) ∧ w7.drew.drew.cell? ⟨gg, i * 3 + 2, none⟩ = some (.slice (some ⟨gw, 0, none⟩) 4096 cw) ∧ w7.drew.drew.cell? ⟨gw, kk * 8 + r, none⟩ = some (.int .u64 lv) ∧ w7.drew.drew.cell? ⟨gP, m, none⟩ = some (.int .i64 kk) := ⟨v0, v1, v2, y3⟩
                  refine wpAnyX_take (i := 0) (v := ?v0d) rfl (by kernel_rfl) (by kernel_rfl) (by kernel_rfl) (by kernel_rfl) (by kernel_rfl) (fun _ _ _ h => h) (Or.inl ⟨by rfl, ?hy0d⟩) hHeld ?rest0d
                  case hy0d => intro w hSw; (try dsimp only at hSw); go_simp; try with_reducible rfl
                  case rest0d =>
                  simp only [Act.put, List.setIfInBounds_toArray, List.set_cons_zero, List.set_cons_succ, List.getElem_toArray, List.getElem_cons_zero]
                  refine wpAnyX_take (i := 2) (v := ?v2d) rfl (by kernel_rfl) (by kernel_rfl) (by kernel_rfl) (by kernel_rfl) (by kernel_rfl) (fun _ _ _ h => h) (Or.inl ⟨by rfl, ?hy2d⟩) hHeld ?rest2d
                  case hy2d => intro w hSw; (try dsimp only at hSw); go_simp; try with_reducible rfl
                  case rest2d =>
                  simp only [Act.put, List.setIfInBounds_toArray, List.set_cons_zero, List.set_cons_succ, List.getElem_toArray, List.getElem_cons_zero, List.getElem_cons_succ]
                  refine wpAnyX_one (i := 1) (by kernel_rfl) rfl (fun K hK => ?_)
                  go_simp
                  refine (hce _).mono ?_
                  rintro e w9 ⟨rfl, rfl⟩
                  refine hK.out _ _ hHeld ?_
                  clear hK K
                  refine wpAnyX_take (i := 3) (v := ?v3d) rfl (by kernel_rfl) (by kernel_rfl) (by kernel_rfl) (by kernel_rfl) (by kernel_rfl) (fun _ _ _ h => h) (Or.inl ⟨by rfl, ?hy3d⟩) hHeld ?rest3d
                  case hy3d => intro w hSw; (try dsimp only at hSw); go_simp; try with_reducible rfl
                  case rest3d =>
                  simp only [Act.put, List.setIfInBounds_toArray, List.set_cons_zero, List.set_cons_succ, List.getElem_toArray, List.getElem_cons_zero, List.getElem_cons_succ]
                  refine wpAnyX_take (i := 4) (v := ?v4d) rfl (by kernel_rfl) (by kernel_rfl) (by kernel_rfl) (by kernel_rfl) (by kernel_rfl) (fun _ _ _ h => h) (Or.inl ⟨by rfl, ?hy4d⟩) hHeld ?rest4d
                  case hy4d => intro w hSw; (try dsimp only at hSw); go_simp; try with_reducible rfl
                  case rest4d =>
                  simp only [Act.put, List.setIfInBounds_toArray, List.set_cons_zero, List.set_cons_succ, List.getElem_toArray, List.getElem_cons_zero, List.getElem_cons_succ]
                  refine wpAnyX_take (i := 5) (v := ?v5d) rfl (by kernel_rfl) (by kernel_rfl) (by kernel_rfl) (by kernel_rfl) (by kernel_rfl) (fun _ _ _ h => h) (Or.inl ⟨by rfl, ?hy5d⟩) hHeld ?rest5d
                  case hy5d => intro w hSw; (try dsimp only at hSw); go_simp; try with_reducible rfl
                  case rest5d =>
                  simp only [Act.put, List.setIfInBounds_toArray, List.set_cons_zero, List.set_cons_succ, List.getElem_toArray, List.getElem_cons_zero, List.getElem_cons_succ]
                  refine wpAnyX_take (i := 6) (v := ?v6d) rfl (by kernel_rfl) (by kernel_rfl) (by kernel_rfl) (by kernel_rfl) (by kernel_rfl) (fun _ _ _ h => h) (Or.inl ⟨by rfl, ?hy6d⟩) hHeld ?rest6d
                  case hy6d => intro w hSw; (try dsimp only at hSw); go_simp; try with_reducible rfl
                  case rest6d =>
                  simp only [Act.put, List.setIfInBounds_toArray, List.set_cons_zero, List.set_cons_succ, List.getElem_toArray, List.getElem_cons_zero, List.getElem_cons_succ]
                  refine wpAnyX_take (i := 7) (v := ?v7d) rfl (by kernel_rfl) (by kernel_rfl) (by kernel_rfl) (by kernel_rfl) (by kernel_rfl) (fun _ _ _ h => h) (Or.inl ⟨by rfl, ?hy7d⟩) hHeld ?rest7d
                  case hy7d => intro w hSw; (try dsimp only at hSw); go_simp; try with_reducible rfl
                  case rest7d =>
                  simp only [Act.put, List.setIfInBounds_toArray, List.set_cons_zero, List.set_cons_succ, List.getElem_toArray, List.getElem_cons_zero, List.getElem_cons_succ]
                  refine wpAnyX_take (i := 8) (v := ?v8d) rfl (by kernel_rfl) (by kernel_rfl) (by kernel_rfl) (by kernel_rfl) (by kernel_rfl) (fun _ _ _ h => h) (Or.inl ⟨by rfl, ?hy8d⟩) hHeld ?rest8d
                  case hy8d => intro w hSw; (try dsimp only at hSw); go_simp; try with_reducible rfl
                  case rest8d =>
                  simp only [Act.put, List.setIfInBounds_toArray, List.set_cons_zero, List.set_cons_succ, List.getElem_toArray, List.getElem_cons_zero, List.getElem_cons_succ]
                  refine wpAnyX_take (i := 9) (v := ?v9d) rfl (by kernel_rfl) (by kernel_rfl) (by kernel_rfl) (by kernel_rfl) (by kernel_rfl) (fun _ _ _ h => h) (Or.inl ⟨by rfl, ?hy9d⟩) hHeld ?rest9d
                  case hy9d => intro w hSw; (try dsimp only at hSw); go_simp; try with_reducible rfl
                  case rest9d =>
                  simp only [Act.put, List.setIfInBounds_toArray, List.set_cons_zero, List.set_cons_succ, List.getElem_toArray, List.getElem_cons_zero, List.getElem_cons_succ]
                  refine wpAnyX_take (i := 10) (v := ?v10d) rfl (by kernel_rfl) (by kernel_rfl) (by kernel_rfl) (by kernel_rfl) (by kernel_rfl) (fun _ _ _ h => h) (Or.inl ⟨by rfl, ?hy10d⟩) hHeld ?rest10d
                  case hy10d => intro w hSw; (try dsimp only at hSw); go_simp; try with_reducible rfl
                  case rest10d =>
                  simp only [Act.put, List.setIfInBounds_toArray, List.set_cons_zero, List.set_cons_succ, List.getElem_toArray, List.getElem_cons_zero, List.getElem_cons_succ]
                  refine wpAnyX_take (i := 11) (v := ?v11d) rfl (by kernel_rfl) (by kernel_rfl) (by kernel_rfl) (by kernel_rfl) (by kernel_rfl) (fun _ _ _ h => h) (Or.inl ⟨by rfl, ?hy11d⟩) hHeld ?rest11d
                  case hy11d => intro w hSw; (try dsimp only at hSw); go_simp; try with_reducible rfl
                  case rest11d =>
                  simp only [Act.put, List.setIfInBounds_toArray, List.set_cons_zero, List.set_cons_succ, List.getElem_toArray, List.getElem_cons_zero, List.getElem_cons_succ]
                  refine wpAnyX_take (i := 12) (v := ?v12d) rfl (by kernel_rfl) (by kernel_rfl) (by kernel_rfl) (by kernel_rfl) (by kernel_rfl) (fun _ _ _ h => h) (Or.inl ⟨by rfl, ?hy12d⟩) hHeld ?rest12d
                  case hy12d => intro w hSw; (try dsimp only at hSw); go_simp; try with_reducible rfl
                  case rest12d =>
                  simp only [Act.put, List.setIfInBounds_toArray, List.set_cons_zero, List.set_cons_succ, List.getElem_toArray, List.getElem_cons_zero, List.getElem_cons_succ]
                  refine wpAnyX_take (i := 13) (v := ?v13d) rfl (by kernel_rfl) (by kernel_rfl) (by kernel_rfl) (by kernel_rfl) (by kernel_rfl) (fun _ _ _ h => h) (Or.inl ⟨by rfl, ?hy13d⟩) hHeld ?rest13d
                  case hy13d => intro w hSw; (try dsimp only at hSw); go_simp; try with_reducible rfl
                  case rest13d =>
                  simp only [Act.put, List.setIfInBounds_toArray, List.set_cons_zero, List.set_cons_succ, List.getElem_toArray, List.getElem_cons_zero, List.getElem_cons_succ]
                  refine wpAnyX_take (i := 14) (v := ?v14d) rfl (by kernel_rfl) (by kernel_rfl) (by kernel_rfl) (by kernel_rfl) (by kernel_rfl) (fun _ _ _ h => h) (Or.inl ⟨by rfl, ?hy14d⟩) hHeld ?rest14d
                  case hy14d => intro w hSw; (try dsimp only at hSw); go_simp; try with_reducible rfl
                  case rest14d =>
                  simp only [Act.put, List.setIfInBounds_toArray, List.set_cons_zero, List.set_cons_succ, List.getElem_toArray, List.getElem_cons_zero, List.getElem_cons_succ]
                  refine wpAnyX_take (i := 15) (v := ?v15d) rfl (by kernel_rfl) (by kernel_rfl) (by kernel_rfl) (by kernel_rfl) (by kernel_rfl) (fun _ _ _ h => h) (Or.inl ⟨by rfl, ?hy15d⟩) hHeld ?rest15d
                  case hy15d => intro w hSw; (try dsimp only at hSw); go_simp; try with_reducible rfl
                  case rest15d =>
                  simp only [Act.put, List.setIfInBounds_toArray, List.set_cons_zero, List.set_cons_succ, List.getElem_toArray, List.getElem_cons_zero, List.getElem_cons_succ]
                  refine wpAnyX_take (i := 16) (v := ?v16d) rfl (by kernel_rfl) (by kernel_rfl) (by kernel_rfl) (by kernel_rfl) (by kernel_rfl) (fun _ _ _ h => h) (Or.inl ⟨by rfl, ?hy16d⟩) hHeld ?rest16d
                  case hy16d => intro w hSw; (try dsimp only at hSw); go_simp; try with_reducible rfl
                  case rest16d =>
                  simp only [Act.put, List.setIfInBounds_toArray, List.set_cons_zero, List.set_cons_succ, List.getElem_toArray, List.getElem_cons_zero, List.getElem_cons_succ]
                  refine wpAnyX_take (i := 17) (v := ?v17d) rfl (by kernel_rfl) (by kernel_rfl) (by kernel_rfl) (by kernel_rfl) (by kernel_rfl) (fun _ _ _ h => h) (Or.inl ⟨by rfl, ?hy17d⟩) hHeld ?rest17d
                  case hy17d => intro w hSw; (try dsimp only at hSw); go_simp; try with_reducible rfl
                  case rest17d =>
                  simp only [Act.put, List.setIfInBounds_toArray, List.set_cons_zero, List.set_cons_succ, List.getElem_toArray, List.getElem_cons_zero, List.getElem_cons_succ]
                  refine wpAnyX_take (i := 18) (v := ?v18d) rfl (by kernel_rfl) (by kernel_rfl) (by kernel_rfl) (by kernel_rfl) (by kernel_rfl) (fun _ _ _ h => h) (Or.inl ⟨by rfl, ?hy18d⟩) hHeld ?rest18d
                  case hy18d => intro w hSw; (try dsimp only at hSw); go_simp; try with_reducible rfl
                  case rest18d =>
                  simp only [Act.put, List.setIfInBounds_toArray, List.set_cons_zero, List.set_cons_succ, List.getElem_toArray, List.getElem_cons_zero, List.getElem_cons_succ]
                  refine wpAnyX_take (i := 19) (v := ?v19d) rfl (by kernel_rfl) (by kernel_rfl) (by kernel_rfl) (by kernel_rfl) (by kernel_rfl) (fun _ _ _ h => h) (Or.inl ⟨by rfl, ?hy19d⟩) hHeld ?rest19d
                  case hy19d => intro w hSw; (try dsimp only at hSw); go_simp; try with_reducible rfl
                  case rest19d =>
                  simp only [Act.put, List.setIfInBounds_toArray, List.set_cons_zero, List.set_cons_succ, List.getElem_toArray, List.getElem_cons_zero, List.getElem_cons_succ]
                  refine wpAnyX_take (i := 20) (v := ?v20d) rfl (by kernel_rfl) (by kernel_rfl) (by kernel_rfl) (by kernel_rfl) (by kernel_rfl) (fun _ _ _ h => h) (Or.inl ⟨by rfl, ?hy20d⟩) hHeld ?rest20d
                  case hy20d => intro w hSw; (try dsimp only at hSw); go_simp; try with_reducible rfl
                  case rest20d =>
                  simp only [Act.put, List.setIfInBounds_toArray, List.set_cons_zero, List.set_cons_succ, List.getElem_toArray, List.getElem_cons_zero, List.getElem_cons_succ]
                  refine wpAnyX_take (i := 21) (v := ?v21d) rfl (by kernel_rfl) (by kernel_rfl) (by kernel_rfl) (by kernel_rfl) (by kernel_rfl) (fun _ _ _ h => h) (Or.inl ⟨by rfl, ?hy21d⟩) hHeld ?rest21d
                  case hy21d => intro w hSw; (try dsimp only at hSw); go_simp; try with_reducible rfl
                  case rest21d =>
                  simp only [Act.put, List.setIfInBounds_toArray, List.set_cons_zero, List.set_cons_succ, List.getElem_toArray, List.getElem_cons_zero, List.getElem_cons_succ]
                  refine wpAnyX_take (i := 22) (v := ?v22d) rfl (by kernel_rfl) (by kernel_rfl) (by kernel_rfl) (by kernel_rfl) (by kernel_rfl) (fun _ _ _ h => h) (Or.inl ⟨by rfl, ?hy22d⟩) hHeld ?rest22d
                  case hy22d => intro w hSw; (try dsimp only at hSw); go_simp; try with_reducible rfl
                  case rest22d =>
                  simp only [Act.put, List.setIfInBounds_toArray, List.set_cons_zero, List.set_cons_succ, List.getElem_toArray, List.getElem_cons_zero, List.getElem_cons_succ]
                  refine wpAnyX_take (i := 23) (v := ?v23d) rfl (by kernel_rfl) (by kernel_rfl) (by kernel_rfl) (by kernel_rfl) (by kernel_rfl) (fun _ _ _ h => h) (Or.inl ⟨by rfl, ?hy23d⟩) hHeld ?rest23d
                  case hy23d => intro w hSw; (try dsimp only at hSw); go_simp; try with_reducible rfl
                  case rest23d =>
                  simp only [Act.put, List.setIfInBounds_toArray, List.set_cons_zero, List.set_cons_succ, List.getElem_toArray, List.getElem_cons_zero, List.getElem_cons_succ]
                  refine wpAnyX_take (i := 24) (v := ?v24d) rfl (by kernel_rfl) (by kernel_rfl) (by kernel_rfl) (by kernel_rfl) (by kernel_rfl) (fun _ _ _ h => h) (Or.inl ⟨by rfl, ?hy24d⟩) hHeld ?rest24d
                  case hy24d => intro w hSw; (try dsimp only at hSw); go_simp; try with_reducible rfl
                  case rest24d =>
                  simp only [Act.put, List.setIfInBounds_toArray, List.set_cons_zero, List.set_cons_succ, List.getElem_toArray, List.getElem_cons_zero, List.getElem_cons_succ]
                  refine wpAnyX_take (i := 25) (v := ?v25d) rfl (by kernel_rfl) (by kernel_rfl) (by kernel_rfl) (by kernel_rfl) (by kernel_rfl) (fun _ _ _ h => h) (Or.inl ⟨by rfl, ?hy25d⟩) hHeld ?rest25d
                  case hy25d => intro w hSw; (try dsimp only at hSw); go_simp; try with_reducible rfl
                  case rest25d =>
                  simp only [Act.put, List.setIfInBounds_toArray, List.set_cons_zero, List.set_cons_succ, List.getElem_toArray, List.getElem_cons_zero, List.getElem_cons_succ]
                  refine wpAnyX_take (i := 26) (v := ?v26d) rfl (by kernel_rfl) (by kernel_rfl) (by kernel_rfl) (by kernel_rfl) (by kernel_rfl) (fun _ _ _ h => h) (Or.inl ⟨by rfl, ?hy26d⟩) hHeld ?rest26d
                  case hy26d => intro w hSw; (try dsimp only at hSw); go_simp; try with_reducible rfl
                  case rest26d =>
                  simp only [Act.put, List.setIfInBounds_toArray, List.set_cons_zero, List.set_cons_succ, List.getElem_toArray, List.getElem_cons_zero, List.getElem_cons_succ]
                  refine wpAnyX_take (i := 27) (v := ?v27d) rfl (by kernel_rfl) (by kernel_rfl) (by kernel_rfl) (by kernel_rfl) (by kernel_rfl) (fun _ _ _ h => h) (Or.inl ⟨by rfl, ?hy27d⟩) hHeld ?rest27d
                  case hy27d => intro w hSw; (try dsimp only at hSw); go_simp; try with_reducible rfl
                  case rest27d =>
                  simp only [Act.put, List.setIfInBounds_toArray, List.set_cons_zero, List.set_cons_succ, List.getElem_toArray, List.getElem_cons_zero, List.getElem_cons_succ]
                  refine wpAnyX_take (i := 28) (v := ?v28d) rfl (by kernel_rfl) (by kernel_rfl) (by kernel_rfl) (by kernel_rfl) (by kernel_rfl) (fun _ _ _ h => h) (Or.inl ⟨by rfl, ?hy28d⟩) hHeld ?rest28d
                  case hy28d => intro w hSw; (try dsimp only at hSw); go_simp; try with_reducible rfl
                  case rest28d =>
                  simp only [Act.put, List.setIfInBounds_toArray, List.set_cons_zero, List.set_cons_succ, List.getElem_toArray, List.getElem_cons_zero, List.getElem_cons_succ]
                  refine wpAnyX_take (i := 29) (v := ?v29d) rfl (by kernel_rfl) (by kernel_rfl) (by kernel_rfl) (by kernel_rfl) (by kernel_rfl) (fun _ _ _ h => h) (Or.inl ⟨by rfl, ?hy29d⟩) hHeld ?rest29d
                  case hy29d => intro w hSw; (try dsimp only at hSw); go_simp; try with_reducible rfl
                  case rest29d =>
                  simp only [Act.put, List.setIfInBounds_toArray, List.set_cons_zero, List.set_cons_succ, List.getElem_toArray, List.getElem_cons_zero, List.getElem_cons_succ]
                  refine wpAnyX_take (i := 30) (v := ?v30d) rfl (by kernel_rfl) (by kernel_rfl) (by kernel_rfl) (by kernel_rfl) (by kernel_rfl) (fun _ _ _ h => h) (Or.inl ⟨by rfl, ?hy30d⟩) hHeld ?rest30d
                  case hy30d => intro w hSw; (try dsimp only at hSw); go_simp; try with_reducible rfl
                  case rest30d =>
                  simp only [Act.put, List.setIfInBounds_toArray, List.set_cons_zero, List.set_cons_succ, List.getElem_toArray, List.getElem_cons_zero, List.getElem_cons_succ]
                  refine wpAnyX_take (i := 31) (v := ?v31d) rfl (by kernel_rfl) (by kernel_rfl) (by kernel_rfl) (by kernel_rfl) (by kernel_rfl) (fun _ _ _ h => h) (Or.inl ⟨by rfl, ?hy31d⟩) hHeld ?rest31d
                  case hy31d => intro w hSw; (try dsimp only at hSw); go_simp; try with_reducible rfl
                  case rest31d =>
                  simp only [Act.put, List.setIfInBounds_toArray, List.set_cons_zero, List.set_cons_succ, List.getElem_toArray, List.getElem_cons_zero, List.getElem_cons_succ]
                  refine wpAnyX_take (i := 32) (v := undef) rfl (by kernel_rfl) (by kernel_rfl) (by kernel_rfl) (by kernel_rfl) (by kernel_rfl) (fun _ _ _ h => h) (Or.inr ⟨by rfl, rfl⟩) hHeld ?rests32d
                  case rests32d =>
                  simp only [Act.put, List.setIfInBounds_toArray, List.set_cons_zero, List.set_cons_succ, List.getElem_toArray, List.getElem_cons_zero, List.getElem_cons_succ]
                  refine wpAnyX_take (i := 33) (v := undef) rfl (by kernel_rfl) (by kernel_rfl) (by kernel_rfl) (by kernel_rfl) (by kernel_rfl) (fun _ _ _ h => h) (Or.inr ⟨by rfl, rfl⟩) hHeld ?rests33d
                  case rests33d =>
                  simp only [Act.put, List.setIfInBounds_toArray, List.set_cons_zero, List.set_cons_succ, List.getElem_toArray, List.getElem_cons_zero, List.getElem_cons_succ]
                  refine wpAnyX_take (i := 34) (v := ?v34d) rfl (by kernel_rfl) (by kernel_rfl) (by kernel_rfl) (by kernel_rfl) (by kernel_rfl) (fun _ _ _ h => h) (Or.inl ⟨by rfl, ?hy34d⟩) hHeld ?rest34d
                  case hy34d => intro w hSw; (try dsimp only at hSw); go_simp; try with_reducible rfl
                  case rest34d =>
                  simp only [Act.put, List.setIfInBounds_toArray, List.set_cons_zero, List.set_cons_succ, List.getElem_toArray, List.getElem_cons_zero, List.getElem_cons_succ]
                  refine wpAnyX_take (i := 35) (v := ?v35d) rfl (by kernel_rfl) (by kernel_rfl) (by kernel_rfl) (by kernel_rfl) (by kernel_rfl) (fun _ _ _ h => h) (Or.inl ⟨by rfl, ?hy35d⟩) hHeld ?rest35d
                  case hy35d => intro w hSw; (try dsimp only at hSw); go_simp; try with_reducible rfl
                  case rest35d =>
                  simp only [Act.put, List.setIfInBounds_toArray, List.set_cons_zero, List.set_cons_succ, List.getElem_toArray, List.getElem_cons_zero, List.getElem_cons_succ]
                  refine wpAnyX_done (by kernel_rfl) ?_ _
                  go_wp2
                  go_roundw
                  case rel => exact ⟨r + 1, by omega, by omega, by go_num, HB7.out.drew.drew⟩
                  case measure => simp only [intOf]; omega
              · obtain rfl : j = 9 := by omega
                go_wp2
                go_roundw
                case rel => exact ⟨m + 1, by omega, by go_num, HBj⟩
                case measure => simp only [intOf]; omega
          · obtain rfl : m = P.length := by omega
            go_wp2
            go_roundw
            case rel => exact ⟨k + 1, by omega, by go_num, HKW.out _ HBm.out⟩
            case measure => simp only [intOf]; omega
    · obtain rfl : k = ss.length := by omega
      have HTW := HT.out.below (below_call' HB1.out HBk.out)
      have h00 : A 0 = none := by
        cases e : A 0 with
        | none => rfl
        | some s =>
          have := (HOK.out _ _ e).1.1
          omega
      have hoI : okI 0 := ⟨by omega, by omega⟩
      have hAr := HTW.areas hoI
      rw [h00] at hAr
      have HL : Hid (∀ W, Below wr.heap.size wr W → Calls Try.prog 16 #[.pointer (some ⟨p, 0, none⟩), .int .i64 0, .int .i64 0, .int .i64 0] W (LdE W A 0 0 0 3)) := fun W hb => (HTW.below hb).load hoI (Or.inl ⟨h00, rfl⟩)
      have hq := fun w => eq_err 3 w
      have HBB : Hid (Below w.heap.size w wr) := below_call' HB1.out HBk.out
      clear HTW hoI h00
      unfold ArP at hAr
      simp only at hAr
      go_wp2_with fail
      refine hAr.mono ?_
      rintro e w2 ⟨rfl, HB2⟩
      have hLd := HL.out _ HB2.out
      unfold LdE at hLd
      rw [errV_ne (by decide)] at hLd
      clear hAr HL
      go_wp2_with fail
      refine hLd.mono ?_
      rintro e w3 ⟨rfl, HB3⟩
      clear hLd
      go_wp2
      go_ret
      exact ⟨rfl, below_call' HBB.out (below_call' HB2.out HB3.out)⟩
end Go.Proofs.Ytoimmapdkapheaa
