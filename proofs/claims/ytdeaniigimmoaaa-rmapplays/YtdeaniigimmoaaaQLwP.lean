/- RmapPlays walked. -/
import Derived.Test.YtdeaniigimmoaaaJF
import Derived.Test.YtdeaniigimmoaaaJD
import Derived.Lib.ItoaWalk
namespace Go.Proofs.Ytdeaniigimmoaaa
open Go.RowKit

def mvB (a b : Int) : Bool := mayFB a && (mayFB b && !(a == b))
theorem mvb_no {a b : Int} (h : ¬ (mayFB a = true ∧ mayFB b = true ∧ a ≠ b)) : mvB a b = false := by
  unfold mvB
  rw [← Bool.not_eq_true]
  intro k
  simp only [Bool.and_eq_true, Bool.not_eq_true', beq_eq_false_iff_ne] at k
  exact h k
theorem mvb_yes {a b : Int} (h : mayFB a = true ∧ mayFB b = true ∧ a ≠ b) : mvB a b = true := by
  unfold mvB
  simp only [Bool.and_eq_true, Bool.not_eq_true', beq_eq_false_iff_ne]
  exact h
theorem PlS.may2 {w W : World} {m db q : Nat} {l l0 : List Rw} {v : Value} {d : QDd} (h : PlS w W m l v l0 db d) (hq : q < W.heap.size) (x0 : W.cell? ⟨q, 0, none⟩ = some (.int .i64 1)) (x1 : W.cell? ⟨q, 1, none⟩ = some (.int .i64 0)) (f : Int) :
    Calls Try.prog 12 #[.int .i64 f, .agg #[.int .i64 1, .int .i64 0]] W fun e W' => e = .returned (.bool (mayFB f)) ∧ (W'.cell? ⟨q, 0, none⟩ = some (.int .i64 1) ∧ W'.cell? ⟨q, 1, none⟩ = some (.int .i64 0)) ∧ Hid (q < W'.heap.size ∧ PlS w W' m l v l0 db d) := by
  have hm := May_any f 1 0 W
  rw [show (mayFB f && mayPB 1 0) = mayFB f by simp [mayPB]] at hm
  refine hm.mono fun e W' k => ⟨k.1, ⟨((bcell k.2.out).1 _ _ hq).trans x0, ((bcell k.2.out).1 _ _ hq).trans x1⟩, ?_, h.step k.2.out⟩
  have := k.2.out.size
  omega

set_option maxRecDepth 100000 in
set_option maxHeartbeats 16000000 in
theorem walk_rmapPlays (ao : Option Addr) (len cap : Nat) (D : Nat → QDd) (w : World) (hm : len ≤ maxLen) (hL : Lst QDd.cells QDd.ok 5 w ao len D) :
    Calls Try.prog 3 #[.slice ao len cap] w fun e w' => e = .returned (.bool true) ∧ Below w.heap.size w w' := by
  have hm' : len ≤ 9223372036854775807 := by unfold maxLen at hm; omega
  have HLst : Hid (Lst QDd.cells QDd.ok 5 w ao len D) := hL
  clear hL hm
  go_enter Try.func3, Try.ntmps3
  go_wp2_with fail
  refine (up_any _).mono ?_
  rintro e w1 ⟨rfl, L1⟩
  go_wp2_with fail
  refine (new_any _).mono ?_
  rintro e w2 ⟨m, rfl, hb⟩
  have HP0 : Hid (PlR w w2 m [] (.slice none 0 0)) := PlR.start (Bec.base L1.out hb.out)
  clear hb L1
  go_wp2_with fail
  go_loopg [5, 6] 60 (fun gk v i W => ∃ (j : Nat) (l : List Rw), gk = 60 - j ∧ j ≤ len ∧ j ≤ 60 ∧ l.length ≤ j ∧ i = .int .i64 j ∧ Hid (PlR w W m l v))
  case atStart => exact ⟨0, [], rfl, Nat.zero_le _, by omega, Nat.zero_le _, rfl, HP0⟩
  case round =>
    obtain ⟨j, l, hgk, hj, hj8, hlj, rfl, HB⟩ := hrel
    clear HP0
    have HGK : Hid (gk = 60 - j) := hgk
    clear hgk
    by_cases hlt : j < len ∧ j < 60
    · obtain ⟨h1, h2⟩ := hlt
      have h1z : (j : Int) < (len : Int) := by omega
      have h2z : (j : Int) < 60 := by omega
      obtain ⟨g, off, rfl, hglt, hok, hc⟩ := QDd.lst HLst.out HB.out.frame h1
      generalize D j = d at *
      obtain ⟨c0, c1, c2, c3, c4⟩ := QDd.at hc
      obtain ⟨ar, cr, rfl⟩ := HB.out.row.form
      have HD : Hid (PlS w (wr.alloc (.cells d.arr 30)) m l (.slice ar l.length cr) l wr.heap.size d) := HB.out.deed d
      have HOK : Hid d.ok := hok
      unfold QDd.arr at HD
      have HB0M : Hid (MayR l ∧ l.length ≤ 4096) := HB.out.may
      clear HB hglt hc hok
      go_upto_region 10 with fail
      go_name_world W0 hW0
      have HD0 : Hid (PlS w W0 m l (.slice ar l.length cr) l wr.heap.size d) := by
        rw [← hW0]
        exact HD.out
      clear hW0 HD c0 c1 c2 c3 c4
      generalize wr.heap.size = db at *
      obtain ⟨-, -, -, c3, c4⟩ := QDd.laid HD0.out.laid
      have hf := HD0.out.find (by omega) d.w.s d.w.p
      go_wp2_with fail
      refine hf.mono ?_
      rintro e W1 ⟨a, rfl, H1⟩
      clear hf c3 c4 HD0
      have HD1 : Hid (PlS w W1 m l (.slice ar l.length cr) l db d) := H1.out.2
      have HF : Hid (FndD l d.w.s d.w.p a) := H1.out.1
      clear H1
      have hP := pick_any d.what 5 W1 HOK.out.1.1 HOK.out.1.2 (by omega) (by omega)
      have hlt5 := pickN_lt d.what 5 (by omega)
      generalize pickN d.what 5 = pn at *
      have HD1M : Hid (MayR l ∧ l.length ≤ 4096) := HB0M
      obtain ⟨c0, -, -, -, -⟩ := QDd.laid HD1.out.laid
      go_upto_region 11 with fail
      go_cut [43] from 41 to 43 (fun s43 W => s43 = .int .i64 pn ∧ W1 = W)
      case first =>
        go_wp2_with fail
        refine hP.mono ?_
        rintro e w' ⟨rfl, rfl⟩
        go_wp2_with fail
        go_meet
        exact ⟨rfl, rfl⟩
      case rest =>
      obtain ⟨rfl, rfl⟩ := hcut
      clear hP c0
      apply_assumption
      · obtain ⟨pi, hpi⟩ : ∃ pi : Int, (pn : Int) = pi := ⟨_, rfl⟩
        have h5 : pi = 0 ∨ pi = 1 ∨ pi = 2 ∨ pi = 3 ∨ pi = 4 := by omega
        rw [hpi]
        clear hpi hlt5
        refine wp_block (wp_seq_k fun K5 hK5 => ?_)
        go_cut [141] from 142 to 144 (fun s141 W => s141 = .bool (decide (pi < 3)) ∧ W1 = W)
        case first =>
          clear HD1 HF HOK HB0M HD1M
          rcases h5 with rfl | rfl | rfl | rfl | rfl
          all_goals (as_aux_lemma => go_wp2_with fail; go_meet; exact ⟨rfl, rfl⟩)
        case rest =>
        obtain ⟨rfl, rfl⟩ := hcut
        apply_assumption
        have h6 : pi < 3 ∨ pi = 3 ∨ pi = 4 := by omega
        clear h5
        rcases h6 with h3 | rfl | rfl
        · as_aux_lemma =>
            rw [decide_eq_true h3]
            clear h3
            obtain ⟨code, l', hd, hll⟩ := add_ex l d.w.s d.w.p d.frame
            have ha := HD1.out.add HOK.out (by omega) hd
            obtain ⟨ev, hev⟩ : ∃ ev, ev = errV code := ⟨_, rfl⟩
            rw [← hev] at ha
            have HEV : Hid (ev = errV code) := hev
            have HDD : Hid (AddD l d.w.s d.w.p d.frame code l') := hd
            obtain ⟨-, c1, -, c3, c4⟩ := QDd.laid HD1.out.laid
            clear hev hd hll
            go_wp2_with fail
            refine ha.mono ?_
            rintro e W3 ⟨rfl, H3⟩
            clear ha c1 c3 c4 HD1
            obtain ⟨-, c1, -, c3, c4⟩ := QDd.laid H3.out.laid
            have hy := H3.out.mays d.frame d.w.s d.w.p
            obtain ⟨mb, hmb⟩ : ∃ mb, mb = (mayFB d.frame && mayPB d.w.s d.w.p) := ⟨_, rfl⟩
            rw [← hmb] at hy
            have HMB : Hid (mb = (mayFB d.frame && mayPB d.w.s d.w.p)) := hmb
            clear hmb
            go_wp2_with fail
            refine hy.mono ?_
            rintro e W4 ⟨rfl, H4⟩
            clear hy c1 c3 c4 H3
            have hne1 := neq_err 1
            have hne4 := neq_err 4
            rcases HDD.out with ⟨k1, k2, k3⟩ | ⟨k1, k2, k3, k4⟩ | ⟨k1, k2, k3, k4⟩
            · have e1 : ev = .iface 37 (.int .i64 1) := by rw [HEV.out, k2]; rfl
              have e2 : mb = false := by
                rw [HMB.out, ← Bool.not_eq_true]
                exact fun h => k1 (may_b.1 h)
              subst e1
              subst e2
              have HE : Hid (PlR w W4 m l (.slice ar l.length cr)) := by
                have h := H4.out
                rw [k3] at h
                exact h.done
              clear k1 k2 k3 HEV HMB HDD H4 HF
              have hs := HE.out.same
              go_wp2_with fail
              refine hs.mono ?_
              rintro e W9 ⟨rfl, H9⟩
              clear hs HE
              go_wp2
              go_roundg (60 - (j + 1))
              case measure => rw [HGK.out]; omega
              case rel => exact ⟨j + 1, l, rfl, by omega, by omega, by omega, by go_num, H9⟩
            · have e1 : ev = .iface 37 (.int .i64 4) := by rw [HEV.out, k3]; rfl
              have e2 : mb = true := by rw [HMB.out]; exact may_b.2 k1
              obtain ⟨i, hi, rfl, -, -⟩ : ∃ i : Nat, i < l.length ∧ a = (i : Int) ∧ (l.getD i zR).s = d.w.s ∧ (l.getD i zR).p = d.w.p := by
                rcases HF.out with ⟨-, q⟩ | q
                · exact absurd q k2
                · exact q
              subst e1
              subst e2
              have HE : Hid (PlR w W4 m l (.slice ar l.length cr)) := by
                have h := H4.out
                rw [k4] at h
                exact h.done
              have q0 : (0 : Int) ≤ (i : Int) := by omega
              have q1 : ¬ ((i : Int) < 0) := by omega
              clear k1 k2 k3 k4 HEV HMB HDD H4 HF
              have hs := HE.out.same
              go_wp2_with fail
              refine hs.mono ?_
              rintro e W9 ⟨rfl, H9⟩
              clear hs HE
              go_wp2
              go_roundg (60 - (j + 1))
              case measure => rw [HGK.out]; omega
              case rel => exact ⟨j + 1, l, rfl, by omega, by omega, by omega, by go_num, H9⟩
            · have e1 : ev = .nilIface := by rw [HEV.out, k3]; rfl
              have e2 : mb = true := by rw [HMB.out]; exact may_b.2 k1
              obtain rfl : a = -1 := by
                rcases HF.out with ⟨q, -⟩ | ⟨i, hi, -, q1, q2⟩
                · exact q
                · rw [fnd_at HD1M.out.1.1 hi q1 q2] at k2
                  cases k2
              subst e1
              subst e2
              have H5 : Hid (PlS w W4 m (putR l ⟨d.w.s, d.w.p, d.frame⟩) (.slice ar l.length cr) l db d) := by
                have h := H4.out
                rw [k4] at h
                exact h
              have hp := H5.out.put (by omega) ⟨d.w.s, d.w.p, d.frame⟩
              obtain ⟨-, c1, -, c3, c4⟩ := QDd.laid H5.out.laid
              clear k1 k2 k3 k4 HEV HMB HDD H4 HF
              go_wp2_with fail
              refine hp.mono ?_
              rintro e W5 ⟨v', rfl, H6⟩
              have HE : Hid (PlR w W5 m (putR l ⟨d.w.s, d.w.p, d.frame⟩) v') := H6.out.done
              clear hp c1 c3 c4 H5 H6
              have hs := HE.out.same
              go_wp2_with fail
              refine hs.mono ?_
              rintro e W9 ⟨rfl, H9⟩
              clear hs HE
              go_wp2
              go_roundg (60 - (j + 1))
              case measure => rw [HGK.out]; omega
              case rel => exact ⟨j + 1, _, rfl, by omega, by omega, by rw [put_len]; omega, by go_num, H9⟩
        · as_aux_lemma =>
            have hr := HD1.out.rem HOK.out
            obtain ⟨-, -, -, c3, c4⟩ := QDd.laid HD1.out.laid
            rcases HF.out with ⟨rfl, k1⟩ | ⟨i, hi, rfl, k1, k2⟩
            · rw [show frF l d.w.s d.w.p = none from fr_at.2 k1, dropR_none k1] at hr
              unfold frV at hr
              clear k1 HF
              go_wp2_with fail
              refine hr.mono ?_
              rintro e W3 ⟨rfl, H3⟩
              have HE : Hid (PlR w W3 m l (.slice ar l.length cr)) := H3.out.done
              have hne3 := neq_err 3
              clear hr c3 c4 H3 HD1
              have hs := HE.out.same
              go_wp2_with fail
              refine hs.mono ?_
              rintro e W9 ⟨rfl, H9⟩
              clear hs HE
              go_wp2
              go_roundg (60 - (j + 1))
              case measure => rw [HGK.out]; omega
              case rel => exact ⟨j + 1, l, rfl, by omega, by omega, by omega, by go_num, H9⟩
            · have HDR : Hid (l.take i ++ l.drop (i + 1) = dropR l d.w.s d.w.p) := fnd_drop HD1M.out.1.1 hi k1 k2
              rw [show frF l d.w.s d.w.p = some (l.getD i zR).f by unfold frF; rw [fnd_at HD1M.out.1.1 hi k1 k2]; rfl] at hr
              unfold frV at hr
              clear k1 k2 HF
              go_wp2_with fail
              refine hr.mono ?_
              rintro e W3 ⟨rfl, H3⟩
              clear hr c3 c4 HD1
              obtain ⟨g2, rfl, -, -, hg2, hlc, hcm, hat⟩ := H3.out.row.at hi
              obtain ⟨-, -, y2⟩ := rRw.at hat
              simp only [show rRw.n = 3 from rfl, show rRw.zero = zR from rfl] at y2
              have hp := H3.out.drop (by omega) hi
              have q0 : (0 : Int) ≤ (i : Int) := by omega
              have q1 : ¬ ((i : Int) < 0) := by omega
              have q2 : (i : Int) < (l.length : Int) := by omega
              clear hat
              generalize (l.getD i zR).f = x at *
              go_wp2_with fail
              refine hp.mono ?_
              rintro e W5 ⟨v', rfl, H6⟩
              have HE : Hid (PlR w W5 m (dropR l d.w.s d.w.p) v') := by
                have h := H6.out
                rw [HDR.out] at h
                exact h.done
              clear hp y2 H3 H6
              have hs := HE.out.same
              go_wp2_with fail
              refine hs.mono ?_
              rintro e W9 ⟨rfl, H9⟩
              clear hs HE
              go_wp2
              go_roundg (60 - (j + 1))
              case measure => rw [HGK.out]; omega
              case rel => exact ⟨j + 1, _, rfl, by omega, by omega, Nat.le_trans dropR_len (by omega), by go_num, H9⟩
        · as_aux_lemma =>
            obtain ⟨code, l', hd⟩ := move_ex l d.frame d.to_
            have hv := HD1.out.mov HOK.out hd
            obtain ⟨ev, hev⟩ : ∃ ev, ev = errV code := ⟨_, rfl⟩
            rw [← hev] at hv
            have HEV : Hid (ev = errV code) := hev
            have HDD : Hid (MoveD l d.frame d.to_ code l') := hd
            obtain ⟨-, c1, c2, -, -⟩ := QDd.laid HD1.out.laid
            clear hev hd HF
            go_wp2_with fail
            refine hv.mono ?_
            rintro e W3 ⟨rfl, H3⟩
            clear hv c1 c2 HD1
            go_upto_region 14 with fail
            go_name_world W4 hW4
            obtain ⟨q, hq⟩ : ∃ q, q = W3.heap.size := ⟨_, rfl⟩
            rw [← hq]
            have H4 : Hid (PlS w W4 m l' (.slice ar l.length cr) l db d) := by
              rw [← hW4]
              exact H3.out.step (new_below _ _)
            have HQ4 : Hid (q < W4.heap.size ∧ W4.cell? ⟨q, 0, none⟩ = some (.int .i64 1) ∧ W4.cell? ⟨q, 1, none⟩ = some (.int .i64 0)) := by
              rw [← hW4, hq]
              refine ⟨by simp, by simp, by simp⟩
            clear hW4 hq H3
            go_cut [15] from 51 to 67 (fun s15 W => s15 = .bool (mvB d.frame d.to_) ∧ Hid (PlS w W m l' (.slice ar l.length cr) l db d))
            case first =>
              as_aux_lemma =>
                have hy := H4.out.may2 HQ4.out.1 HQ4.out.2.1 HQ4.out.2.2 d.frame
                obtain ⟨-, x0, x1⟩ := HQ4.out
                obtain ⟨-, c1, c2, -, -⟩ := QDd.laid H4.out.laid
                cases h1 : mayFB d.frame with
                | false =>
                  rw [h1] at hy
                  have HV : Hid (mvB d.frame d.to_ = false) := by show mvB d.frame d.to_ = false; unfold mvB; rw [h1]; rfl
                  clear h1
                  go_wp2_with fail
                  refine hy.mono ?_
                  rintro e W5 ⟨rfl, -, H5⟩
                  clear hy x0 x1 c1 c2
                  go_wp2_with fail
                  go_meet
                  exact ⟨by rw [HV.out], H5.out.2⟩
                | true =>
                  rw [h1] at hy
                  have HV1 : Hid (mayFB d.frame = true) := h1
                  clear h1
                  go_wp2_with fail
                  refine hy.mono ?_
                  rintro e W5 ⟨rfl, ⟨x0, x1⟩, H5⟩
                  clear hy c1 c2 H4 HQ4
                  obtain ⟨-, c1, c2, -, -⟩ := QDd.laid H5.out.2.laid
                  have hy := H5.out.2.may2 H5.out.1 x0 x1 d.to_
                  cases h2 : mayFB d.to_ with
                  | false =>
                    rw [h2] at hy
                    have HV : Hid (mvB d.frame d.to_ = false) := by show mvB d.frame d.to_ = false; unfold mvB; rw [h2]; simp
                    clear h2
                    go_wp2_with fail
                    refine hy.mono ?_
                    rintro e W6 ⟨rfl, -, H6⟩
                    clear hy x0 x1 c1 c2
                    go_wp2_with fail
                    go_meet
                    exact ⟨by rw [HV.out], H6.out.2⟩
                  | true =>
                    rw [h2] at hy
                    have HV2 : Hid (mayFB d.to_ = true) := h2
                    clear h2
                    go_wp2_with fail
                    refine hy.mono ?_
                    rintro e W6 ⟨rfl, -, H6⟩
                    clear hy x0 x1 c1 c2
                    obtain ⟨-, c1, c2, -, -⟩ := QDd.laid H6.out.2.laid
                    by_cases h3 : d.frame = d.to_
                    · have HV : Hid (mvB d.frame d.to_ = false) := mvb_no fun k => k.2.2 h3
                      have d1 : (d.frame == d.to_) = true := by simpa using h3
                      have d2 : (d.frame != d.to_) = false := by simpa using h3
                      clear h3
                      go_wp2_with fail
                      go_meet
                      exact ⟨by rw [HV.out], H6.out.2⟩
                    · have HV : Hid (mvB d.frame d.to_ = true) := mvb_yes ⟨HV1.out, HV2.out, h3⟩
                      have d1 : (d.frame == d.to_) = false := by simpa using h3
                      have d2 : (d.frame != d.to_) = true := by simpa using h3
                      clear h3
                      go_wp2_with fail
                      go_meet
                      exact ⟨by rw [HV.out], H6.out.2⟩
            case rest =>
            obtain ⟨rfl, H5⟩ := hcut
            clear H4 HQ4
            apply_assumption
            obtain ⟨mv, hmv⟩ : ∃ mv, mv = mvB d.frame d.to_ := ⟨_, rfl⟩
            rw [← hmv]
            have HMV : Hid (mv = mvB d.frame d.to_) := hmv
            have hl9 : l.length ≤ 9223372036854775807 := by omega
            clear hmv
            go_wp2_with fail
            go_loopw [16, 17] (fun hv kv W => ∃ (k : Nat) (hb : Bool), k ≤ l.length ∧ kv = .int .i64 k ∧ hv = .bool hb ∧ Hid (hb = hasP l d.to_ k) ∧ Hid (PlS w W m l' (.slice ar l.length cr) l db d)) (fun _ kv _ => l.length - (intOf kv).toNat)
            case atStart => exact ⟨0, false, Nat.zero_le _, rfl, rfl, rfl, H5⟩
            case round =>
              clear H5
              obtain ⟨k, hb, hk, rfl, rfl, HH, HB⟩ := hrel
              by_cases hkl : k < l.length
              · as_aux_lemma =>
                  have hki : (k : Int) < (l.length : Int) := by omega
                  have hk0 : (0 : Int) ≤ (k : Int) := by omega
                  have HN : Hid (hasP l d.to_ (k + 1) = (hb || ((l.getD k zR).f == d.to_))) := by
                    show _ = _
                    rw [hasp_next hkl, HH.out]
                  obtain ⟨g2, rfl, -, -, hg2, -, -, hat⟩ := HB.out.row.at hkl
                  obtain ⟨-, -, y2⟩ := rRw.at hat
                  simp only [show rRw.n = 3 from rfl, show rRw.zero = zR from rfl] at y2
                  obtain ⟨-, -, c2, -, -⟩ := QDd.laid HB.out.laid
                  clear hat HH
                  generalize (l.getD k zR).f = x at *
                  cases hb with
                  | true =>
                    have HN2 : Hid (true = hasP l d.to_ (k + 1)) := HN.out.symm
                    clear HN
                    go_wp2
                    go_quiet (fail)
                    go_wp2
                    go_roundw
                    case rel => exact ⟨k + 1, true, hkl, by go_num, rfl, HN2, HB.out.step (below_drewN (Below.refl _ _) _)⟩
                    case measure => simp only [intOf]; omega
                  | false =>
                    by_cases hx : x = d.to_
                    · have d1 : (x == d.to_) = true := by simpa using hx
                      have HN2 : Hid (true = hasP l d.to_ (k + 1)) := by
                        show _ = _
                        rw [HN.out, d1]; rfl
                      clear HN
                      go_wp2
                      go_quiet (fail)
                      go_wp2
                      go_roundw
                      case rel => exact ⟨k + 1, true, hkl, by go_num, rfl, HN2, HB.out.step (below_drewN (Below.refl _ _) _)⟩
                      case measure => simp only [intOf]; omega
                    · have d1 : (x == d.to_) = false := by simpa using hx
                      have HN2 : Hid (false = hasP l d.to_ (k + 1)) := by
                        show _ = _
                        rw [HN.out, d1]; rfl
                      clear HN
                      go_wp2
                      go_quiet (fail)
                      go_wp2
                      go_roundw
                      case rel => exact ⟨k + 1, false, hkl, by go_num, rfl, HN2, HB.out.step (below_drewN (Below.refl _ _) _)⟩
                      case measure => simp only [intOf]; omega
              · obtain rfl : k = l.length := by omega
                have hne1 := neq_err 1
                have hne7 := neq_err 7
                rcases HDD.out with ⟨k1, k2, k3⟩ | ⟨k1, k2, k3, k4⟩ | ⟨k1, k2, k3, k4⟩
                · as_aux_lemma =>
                    have e1 : ev = .iface 37 (.int .i64 1) := by rw [HEV.out, k2]; rfl
                    have e2 : mv = false := by rw [HMV.out]; exact mvb_no k1
                    subst e1
                    subst e2
                    have HE : Hid (PlR w wr m l (.slice ar l.length cr)) := by
                      have h := HB.out
                      rw [k3] at h
                      exact h.done
                    clear k1 k2 k3 HEV HMV HDD HB HH
                    go_wp2
                    go_loopw [18] (fun kv W => kv = .int .i64 0 ∧ Hid (PlR w W m l (.slice ar l.length cr))) (fun _ _ => 0)
                    case atStart => exact ⟨rfl, HE⟩
                    case round =>
                      clear HE
                      obtain ⟨rfl, HE⟩ := hrel
                      by_cases hp : (0 : Int) < (l.length : Int)
                      · have hs := HE.out.same
                        go_wp2_with fail
                        refine hs.mono ?_
                        rintro e W9 ⟨rfl, H9⟩
                        clear hs HE
                        go_wp2
                        go_roundg (60 - (j + 1))
                        case measure => rw [HGK.out]; omega
                        case rel => exact ⟨j + 1, l, rfl, by omega, by omega, by omega, by go_num, H9⟩
                      · have hs := HE.out.same
                        go_wp2_with fail
                        refine hs.mono ?_
                        rintro e W9 ⟨rfl, H9⟩
                        clear hs HE
                        go_wp2
                        go_roundg (60 - (j + 1))
                        case measure => rw [HGK.out]; omega
                        case rel => exact ⟨j + 1, l, rfl, by omega, by omega, by omega, by go_num, H9⟩
                · as_aux_lemma =>
                    have e1 : ev = .iface 37 (.int .i64 7) := by rw [HEV.out, k3]; rfl
                    have e2 : mv = true := by rw [HMV.out]; exact mvb_yes k1
                    have e3 : hb = true := by rw [HH.out]; exact hasp_all.2 k2
                    subst e1
                    subst e2
                    subst e3
                    have HE : Hid (PlR w wr m l (.slice ar l.length cr)) := by
                      have h := HB.out
                      rw [k4] at h
                      exact h.done
                    clear k1 k2 k3 k4 HEV HMV HDD HB HH
                    go_wp2
                    go_loopw [18] (fun kv W => kv = .int .i64 0 ∧ Hid (PlR w W m l (.slice ar l.length cr))) (fun _ _ => 0)
                    case atStart => exact ⟨rfl, HE⟩
                    case round =>
                      clear HE
                      obtain ⟨rfl, HE⟩ := hrel
                      by_cases hp : (0 : Int) < (l.length : Int)
                      · have hs := HE.out.same
                        go_wp2_with fail
                        refine hs.mono ?_
                        rintro e W9 ⟨rfl, H9⟩
                        clear hs HE
                        go_wp2
                        go_roundg (60 - (j + 1))
                        case measure => rw [HGK.out]; omega
                        case rel => exact ⟨j + 1, l, rfl, by omega, by omega, by omega, by go_num, H9⟩
                      · have hs := HE.out.same
                        go_wp2_with fail
                        refine hs.mono ?_
                        rintro e W9 ⟨rfl, H9⟩
                        clear hs HE
                        go_wp2
                        go_roundg (60 - (j + 1))
                        case measure => rw [HGK.out]; omega
                        case rel => exact ⟨j + 1, l, rfl, by omega, by omega, by omega, by go_num, H9⟩
                · as_aux_lemma =>
                    have e1 : ev = .nilIface := by rw [HEV.out, k3]; rfl
                    have e2 : mv = true := by rw [HMV.out]; exact mvb_yes k1
                    have e3 : hb = false := by rw [HH.out]; exact hasp_no.2 k2
                    subst e1
                    subst e2
                    subst e3
                    have HS : Hid (PlS w wr m (moveR l d.frame d.to_) (.slice ar l.length cr) (mvP l d.frame d.to_ 0) db d) := by
                      have h := HB.out
                      rw [k4] at h
                      show PlS _ _ _ _ _ _ _ _
                      rw [mvp_zero]
                      exact h
                    clear k1 k2 k3 k4 HEV HMV HDD HB HH
                    go_wp2
                    go_loopw [18] (fun kv W => ∃ k : Nat, k ≤ l.length ∧ kv = .int .i64 k ∧ Hid (PlS w W m (moveR l d.frame d.to_) (.slice ar l.length cr) (mvP l d.frame d.to_ k) db d)) (fun kv _ => l.length - (intOf kv).toNat)
                    case atStart => exact ⟨0, Nat.zero_le _, rfl, HS⟩
                    case round =>
                      clear HS
                      obtain ⟨k, hk, rfl, HB⟩ := hrel
                      by_cases hkl : k < l.length
                      · as_aux_lemma =>
                          have hki : (k : Int) < (l.length : Int) := by omega
                          have hk0 : (0 : Int) ≤ (k : Int) := by omega
                          obtain ⟨g2, rfl, -, -, hg2, -, -, hat⟩ := HB.out.row.at (k := k) (by rw [mvp_len]; exact hkl)
                          rw [show rRw.zero = zR from rfl, mvp_at hkl] at hat
                          obtain ⟨-, -, y2⟩ := rRw.at hat
                          simp only [show rRw.n = 3 from rfl] at y2
                          have hfz := HB.out.row.frozen (k * 3 + 2)
                          obtain ⟨-, c1, c2, -, -⟩ := QDd.laid HB.out.laid
                          by_cases hx : (l.getD k zR).f = d.frame
                          · have HB2 : Hid (∀ W, PlS w W m (moveR l d.frame d.to_) (.slice (some ⟨g2, 0, none⟩) l.length cr) (mvP l d.frame d.to_ k) db d → PlS w (W.setCell ⟨g2, k * 3 + 2, none⟩ (.int .i64 d.to_)) m (moveR l d.frame d.to_) (.slice (some ⟨g2, 0, none⟩) l.length cr) (mvP l d.frame d.to_ (k + 1)) db d) := fun W h => by
                              have h2 := h.set (i := k) (by rw [mvp_len]; exact hkl) d.to_
                              rw [mvp_at hkl, mvp_yes hkl hx] at h2
                              exact h2
                            have d1 : ((l.getD k zR).f == d.frame) = true := by simpa using hx
                            clear hat hx
                            generalize (l.getD k zR).f = x at *
                            go_wp2
                            go_quiet (fail)
                            go_wp2
                            go_roundw
                            case rel => exact ⟨k + 1, hkl, by go_num, HB2.out _ (HB.out.step (below_drewN (Below.refl _ _) _))⟩
                            case measure => simp only [intOf]; omega
                          · have HB2 : Hid (PlS w wr m (moveR l d.frame d.to_) (.slice (some ⟨g2, 0, none⟩) l.length cr) (mvP l d.frame d.to_ (k + 1)) db d) := by
                              have h := HB.out
                              rw [mvp_no hkl hx] at h
                              exact h
                            have d1 : ((l.getD k zR).f == d.frame) = false := by simpa using hx
                            clear hat hx HB
                            generalize (l.getD k zR).f = x at *
                            go_wp2
                            go_quiet (fail)
                            go_wp2
                            go_roundw
                            case rel => exact ⟨k + 1, hkl, by go_num, HB2.out.step (below_drewN (Below.refl _ _) _)⟩
                            case measure => simp only [intOf]; omega
                      · obtain rfl : k = l.length := by omega
                        have HE : Hid (PlR w wr m (moveR l d.frame d.to_) (.slice ar l.length cr)) := by
                          have h := HB.out
                          rw [mvp_all] at h
                          exact h.done
                        clear HB
                        have hs := HE.out.same
                        go_wp2_with fail
                        refine hs.mono ?_
                        rintro e W9 ⟨rfl, H9⟩
                        clear hs HE
                        go_wp2
                        go_roundg (60 - (j + 1))
                        case measure => rw [HGK.out]; omega
                        case rel => exact ⟨j + 1, _, rfl, by omega, by omega, by rw [move_len]; omega, by go_num, H9⟩
    · have hx : (¬ (j : Int) < (len : Int)) ∨ ((j : Int) < (len : Int) ∧ ¬ (j : Int) < 60) := by omega
      clear hlt hj hj8
      have HL : Hid (Below w.heap.size w wr) := HB.out.frame
      clear HB
      rcases hx with hx | ⟨hx, hy⟩
      · go_wp2
        go_ret
        exact ⟨rfl, HL.out⟩
      · go_wp2
        go_ret
        exact ⟨rfl, HL.out⟩
end Go.Proofs.Ytdeaniigimmoaaa
