/- RmapOnce walked. -/
import Derived.Test.YtdeaniigimmoaaaJE
import Derived.Test.YtdeaniigimmoaaaJD
namespace Go.Proofs.Ytdeaniigimmoaaa
open Go.RowKit

set_option maxRecDepth 100000 in
set_option maxHeartbeats 16000000 in
theorem walk_rmapOnce (ao : Option Addr) (len cap : Nat) (D : Nat → QDd) (sp : Int) (w : World) (hm : len ≤ maxLen) (hL : Lst QDd.cells QDd.ok 5 w ao len D) (hsp : -9223372036854775808 ≤ sp ∧ sp ≤ 9223372036854775807) :
    Calls Try.prog 4 #[.slice ao len cap, .int .i64 sp] w fun e w' => e = .returned (.bool true) ∧ Below w.heap.size w w' := by
  have hm' : len ≤ 9223372036854775807 := by unfold maxLen at hm; omega
  have HLst : Hid (Lst QDd.cells QDd.ok 5 w ao len D) := hL
  have HSP : Hid (okI sp) := hsp
  clear hL hm hsp
  go_enter Try.func4, Try.ntmps4
  go_wp2_with fail
  refine (up_any _).mono ?_
  rintro e w1 ⟨rfl, L1⟩
  go_wp2_with fail
  refine (new_any _).mono ?_
  rintro e w2 ⟨m, rfl, hb⟩
  have HP0 : Hid (Bec (fun _ => False) w ((RmT m []).and .emp) w2) := rm_start (Bec.base L1.out hb.out)
  clear hb L1
  go_wp2_with fail
  go_loopw [7] (fun iv wr => ∃ (j : Nat) (l : List Rw), j ≤ len ∧ j ≤ 60 ∧ iv = .int .i64 j ∧ Hid (l.length ≤ j ∧ Bec (fun _ => False) w ((RmT m l).and .emp) wr ∧ ∀ x ∈ l, ∃ i, i < j ∧ (D i).w.s = x.s ∧ (D i).w.p = x.p)) (fun iv _ => 60 - (intOf iv).toNat)
  case atStart => exact ⟨0, [], Nat.zero_le _, Nat.zero_le _, rfl, Nat.zero_le _, HP0.out, by simp⟩
  case round =>
    obtain ⟨j, l, hj, hj8, rfl, HB⟩ := hrel
    clear HP0
    by_cases hlt : j < len ∧ j < 60
    · obtain ⟨h1, h2⟩ := hlt
      have h1z : (j : Int) < (len : Int) := by omega
      have h2z : (j : Int) < 60 := by omega
      obtain ⟨g, off, rfl, hglt, hok, hc⟩ := QDd.lst HLst.out HB.out.2.1.frame h1
      have HC : Hid (∀ W', Below w.heap.size w W' → W'.cell? ⟨g, off + j * 5 + 1, none⟩ = some (.int .i64 (D j).frame) ∧ W'.cell? ⟨g, off + j * 5 + 3, none⟩ = some (.int .i64 (D j).w.s) ∧ W'.cell? ⟨g, off + j * 5 + 4, none⟩ = some (.int .i64 (D j).w.p) ∧ W'.cell? ⟨g, off + j * 5, none⟩ = some (.int .i64 (D j).what)) := fun W' hb' => by
        obtain ⟨g', off', e', -, -, hc'⟩ := QDd.lst HLst.out hb' h1
        cases e'
        obtain ⟨c0, c1, c2, c3, c4⟩ := QDd.at hc'
        exact ⟨c1, c3, c4, c0⟩
      obtain ⟨code, l', hd, hll⟩ := add_ex l (D j).w.s (D j).w.p (D j).frame
      have HMEM : Hid (∀ x ∈ l', ∃ i, i < j + 1 ∧ (D i).w.s = x.s ∧ (D i).w.p = x.p) := fun x hx => by
        have hk : x = ⟨(D j).w.s, (D j).w.p, (D j).frame⟩ ∨ x ∈ l := by
          rcases hd with ⟨-, -, e⟩ | ⟨-, -, -, e⟩ | ⟨-, -, -, e⟩
          · rw [e] at hx; exact Or.inr hx
          · rw [e] at hx; exact Or.inr hx
          · rw [e] at hx; exact (put_mem _ _ _).1 hx
        rcases hk with rfl | hk
        · exact ⟨j, by omega, rfl, rfl⟩
        · obtain ⟨i, h1, h2⟩ := HB.out.2.2 x hk
          exact ⟨i, by omega, h2⟩
      generalize D j = d at *
      have hadd : Hid (∀ W', Below wr.heap.size wr W' → Calls Try.prog 11 #[.pointer (some ⟨m, 0, none⟩), .int .i64 d.frame, .agg #[.int .i64 d.w.s, .int .i64 d.w.p]] W' fun e w' => e = .returned (errV code) ∧ (w'.cell? ⟨g, off + j * 5 + 1, none⟩ = some (.int .i64 d.frame) ∧ w'.cell? ⟨g, off + j * 5 + 3, none⟩ = some (.int .i64 d.w.s) ∧ w'.cell? ⟨g, off + j * 5 + 4, none⟩ = some (.int .i64 d.w.p)) ∧ Hid (l'.length ≤ j + 1 ∧ Bec (fun _ => False) w ((RmT m l').and .emp) w' ∧ ∀ x ∈ l', ∃ i, i < j + 1 ∧ (D i).w.s = x.s ∧ (D i).w.p = x.p)) := fun W' hb' => by
        refine ((HB.out.2.1.below hb').addc hok.2.2.2.1 hok.2.2.2.2 hok.2.1 (by have := HB.out.1; omega) hd).mono ?_
        rintro e w' ⟨rfl, h3⟩
        obtain ⟨z1, z2, z3, -⟩ := HC.out w' h3.out.frame
        exact ⟨rfl, ⟨z1, z2, z3⟩, Nat.le_trans hll (by have := HB.out.1; omega), h3.out, HMEM.out⟩
      have HOK : Hid d.ok := hok
      obtain ⟨x1, x2, x3, -⟩ := HC.out wr HB.out.2.1.frame
      clear hglt hc hok hd hll HB HMEM
      go_wp2_with fail
      go_region_held3 (fun w' => w'.cell? ⟨g, off + j * 5 + 1, none⟩ = some (.int .i64 d.frame) ∧ w'.cell? ⟨g, off + j * 5 + 3, none⟩ = some (.int .i64 d.w.s) ∧ w'.cell? ⟨g, off + j * 5 + 4, none⟩ = some (.int .i64 d.w.p)) (go_keep) (first | (go_at_call 11; refine (hadd.out _ ?q1).mono ?_; (case q1 => first | exact Below.refl _ _ | exact (Below.refl _ _).drew); rintro e w4 ⟨rfl, ⟨y1, y2, y3⟩, HX⟩))
      clear hadd
      obtain ⟨c1, c3, c4, c0⟩ := HC.out w4 HX.out.2.1.frame
      have hP := pick_any d.what 4 w4 HOK.out.1.1 HOK.out.1.2 (by omega) (by omega)
      have hrem := HX.out.2.1.remc HOK.out.2.2.2.1 HOK.out.2.2.2.2
      have HDR : Hid ((dropR l' d.w.s d.w.p).length ≤ j + 1 ∧ ∀ x ∈ dropR l' d.w.s d.w.p, ∃ i, i < j + 1 ∧ (D i).w.s = x.s ∧ (D i).w.p = x.p) := ⟨Nat.le_trans (List.length_filter_le _ _) HX.out.1, fun x hx => HX.out.2.2 x (drop_mem.1 hx).1⟩
      clear y1 y2 y3 x1 x2 x3
      generalize pickN d.what 4 = pk at *
      go_wp2_with fail
      refine hP.mono ?_
      rintro e w5 ⟨rfl, hw⟩
      obtain rfl := hw.symm
      clear hw hP
      by_cases hpk : pk = 0
      · subst hpk
        go_wp2_with fail
        refine hrem.mono ?_
        rintro e w6 ⟨rfl, H6⟩
        clear hrem HX
        go_wp2
        go_roundw
        case rel => exact ⟨j + 1, _, h1, h2, by go_num, HDR.out.1, H6.out, HDR.out.2⟩
        case measure => simp only [intOf]; omega
      · have hpz : ¬ ((pk : Nat) : Int) = 0 := by omega
        have hpb : (((pk : Nat) : Int) == 0) = false := by simpa using hpk
        clear hrem HDR
        go_wp2
        go_roundw
        case rel => exact ⟨j + 1, _, h1, h2, by go_num, HX⟩
        case measure => simp only [intOf]; omega
    · have hx : (¬ (j : Int) < (len : Int)) ∨ ((j : Int) < (len : Int) ∧ ¬ (j : Int) < 60) := by omega
      clear hlt
      go_upto_region 6 with fail
      go_cut [30] from 23 to 30 (fun s38 wx => s38 = .bool false ∧ wr = wx)
      case first =>
        clear HB HLst
        rcases hx with hx | ⟨hx, hy⟩
        · go_wp2_with fail
          go_meet
          exact ⟨rfl, rfl⟩
        · go_wp2_with fail
          go_meet
          exact ⟨rfl, rfl⟩
      case rest =>
        obtain ⟨rfl, rfl⟩ := hcut
        clear hx
        obtain ⟨-, HB1, -⟩ := HB.out
        have hfr := HB1.frs
        clear HB HB1 hj hj8
        go_wp2_with fail
        refine hfr.mono ?_
        rintro e w3 ⟨a3, c3, rfl, H3⟩
        obtain ⟨A3, h3⟩ := H3.out.2.1.rmt
        have HM : Hid ((RmT m l).In A3 w3) := h3
        have HL : Hid (MayR l ∧ l.length ≤ 4096) := H3.out.2.1.may
        have HB3 : Hid (Below w.heap.size w w3) := H3.out.2.1.frame
        have HFR : Hid (Row rNm 0 w3 (.slice a3 (framesI l).length c3) (framesI l)) := H3.out.2.2.2
        have hFS1 := framesI_ris l
        have hFS2 : ∀ f, f ∈ framesI l ↔ ∃ x ∈ l, x.f = f := fun f => framesI_mem HL.out.1
        clear hfr H3 h3
        generalize framesI l = Fz at *
        have hnd : Fz.Nodup := hFS1.imp fun h e => by omega
        have hin : ∀ x ∈ l, x.f ∈ Fz := fun x hx => (hFS2 _).2 ⟨x, hx, rfl⟩
        have HFS : Hid (Fz.Pairwise (· < ·) ∧ (∀ f, f ∈ Fz ↔ ∃ x ∈ l, x.f = f) ∧ Fz.Nodup ∧ ∀ x ∈ l, x.f ∈ Fz) := ⟨hFS1, hFS2, hnd, hin⟩
        have hfl : Fz.length ≤ 512 := few_from0 512 Fz hnd fun f hf => by
          obtain ⟨x, hx, rfl⟩ := (hFS2 f).1 hf
          have := HL.out.1.2 x hx
          unfold Rw.may at this
          omega
        clear hFS1 hFS2 hnd hin
        go_wp2
        go_loopw [9, 10] (fun av iv wr => ∃ i : Nat, i ≤ Fz.length ∧ iv = .int .i64 i ∧ Hid (Row rWh w3.heap.size wr av (allA l Fz i)) ∧ Hid (Below w3.heap.size w3 wr)) (fun _ iv _ => Fz.length - (intOf iv).toNat)
        case atStart => exact ⟨0, Nat.zero_le _, rfl, Row.nil _ _ _, Below.refl _ _⟩
        case round =>
          obtain ⟨i, hi, rfl, HA, HB⟩ := hrel
          by_cases hil : i < Fz.length
          · have hii : (i : Int) < (Fz.length : Int) := by omega
            have hi0 : (0 : Int) ≤ (i : Int) := by omega
            have HI : Hid (i < Fz.length ∧ Fz.getD i 0 ∈ Fz) := ⟨hil, by rw [List.getD_eq_getElem?_getD, List.getElem?_eq_getElem hil]; exact List.getElem_mem hil⟩
            obtain ⟨g3, rfl, -, -, hg3, -, -, hat⟩ := (HFR.out.below HB.out).at hil
            have y0 := rNm.at hat
            simp only [show rNm.n = 1 from rfl, show Rec.zero rNm = (0 : Int) from rfl, Nat.mul_one] at y0
            have HFC : Hid (∀ W', Below w3.heap.size w3 W' → W'.cell? ⟨g3, i, none⟩ = some (.int .i64 (Fz.getD i 0)) ∧ g3 < W'.heap.size) := fun W' hb' => by
              obtain ⟨g, e, -, -, hg, -, -, hat⟩ := (HFR.out.below hb').at hil
              cases e
              have y0 := rNm.at hat
              simp only [show rNm.n = 1 from rfl, show Rec.zero rNm = (0 : Int) from rfl, Nat.mul_one] at y0
              exact ⟨y0, hg⟩
            obtain ⟨f, hfe⟩ : ∃ f, Fz.getD i 0 = f := ⟨_, rfl⟩
            have HFE : Hid (Fz.getD i 0 = f) := hfe
            rw [hfe] at y0 HI HFC
            obtain ⟨x0, hx0, hxf⟩ := (HFS.out.2.1 f).1 HI.out.2
            have hx1 := HL.out.1.2 x0 hx0
            unfold Rw.may at hx1
            have hokf : okI f := ⟨by omega, by omega⟩
            have HOKF : Hid (okI f) := hokf
            have hofp : 0 < (ofR l f).length := List.length_pos_iff.2 fun e => by
              have := of_mem.2 ⟨hx0, hxf⟩
              rw [e] at this
              simp at this
            have hon : ¬ (((ofR l f).length : Nat) : Int) = 0 := by omega
            have hon2 : ((((ofR l f).length : Nat) : Int) == 0) = false := by simpa using (show (ofR l f).length ≠ 0 by omega)
            have hof := of_any (in_below HM.out HB.out) hokf
            have hol : (ofR l f).length ≤ 4096 := Nat.le_trans (of_len l f) HL.out.2
            clear hat hfe hx0 hxf hx1 hokf hofp
            go_wp2_with fail
            refine hof.mono ?_
            rintro e w6 ⟨a6, c6, rfl, K6⟩
            obtain ⟨G6, b6, R6, -⟩ := K6.out
            have HOF0 : Hid (Row rWh 0 w6 (.slice a6 (ofR l f).length c6) (ofR l f) ∧ ∀ g, (Value.slice a6 (ofR l f).length c6).ownBlock = some g → u9.ownBlock ≠ some g) := ⟨R6.2, fun g hg e => by
              have h1 := (b6 g ((R6.1 g).2 hg)).resolve_left fun e => e
              have h2 := (HA.out.lt g e).2
              omega⟩
            have HB6 : Hid (Below w3.heap.size w3 w6) := below_call' HB.out K6.out.frame
            have HA6 : Hid (Row rWh w3.heap.size w6 u9 (allA l Fz i)) := HA.out.below K6.out.frame
            obtain ⟨z0, hz0⟩ := HFC.out w6 HB6.out
            have hct := count_any (in_below HM.out HB6.out) HOKF.out
            clear hof K6 b6 R6 HA HB y0 hg3
            go_wp2_with fail
            refine hct.mono ?_
            rintro e w7 ⟨rfl, hw⟩
            obtain rfl := hw.symm
            clear hw hct
            go_wp2
            go_loopw [9, 12] (fun av kv wr => ∃ k : Nat, k ≤ (ofR l f).length ∧ kv = .int .i64 k ∧ Hid (Row rWh w3.heap.size wr av (allA l Fz i ++ (ofR l f).take k)) ∧ Hid (Row rWh 0 wr (.slice a6 (ofR l f).length c6) (ofR l f) ∧ ∀ g, (Value.slice a6 (ofR l f).length c6).ownBlock = some g → av.ownBlock ≠ some g) ∧ Hid (Below w3.heap.size w3 wr)) (fun _ kv _ => (ofR l f).length - (intOf kv).toNat)
            case atStart => exact ⟨0, Nat.zero_le _, rfl, by simpa using HA6, HOF0, HB6⟩
            case round =>
              clear HA6 HOF0 HB6
              obtain ⟨k, hk, rfl, HA, HOF, HB⟩ := hrel
              by_cases hkl : k < (ofR l f).length
              · have hki : (k : Int) < ((ofR l f).length : Int) := by omega
                have hk0 : (0 : Int) ≤ (k : Int) := by omega
                obtain ⟨g6, rfl, -, -, hg6, -, -, hat⟩ := HOF.out.1.at hkl
                obtain ⟨x0, x1⟩ := rWh.at hat
                simp only [show rWh.n = 2 from rfl, show Rec.zero rWh = zR from rfl] at x0 x1
                have HXC : Hid (∀ W', Below wr.heap.size wr W' → W'.cell? ⟨g6, k * 2, none⟩ = some (.int .i64 ((ofR l f).getD k zR).s) ∧ W'.cell? ⟨g6, k * 2 + 1, none⟩ = some (.int .i64 ((ofR l f).getD k zR).p) ∧ g6 < W'.heap.size) := fun W' hb' => by
                  obtain ⟨g, e, -, -, hg, -, -, hat⟩ := (HOF.out.1.below hb').at hkl
                  cases e
                  obtain ⟨x0, x1⟩ := rWh.at hat
                  exact ⟨x0, x1, hg⟩
                have hxm : (ofR l f).getD k zR ∈ ofR l f := by rw [List.getD_eq_getElem?_getD, List.getElem?_eq_getElem hkl]; exact List.getElem_mem hkl
                obtain ⟨hxl, hxf⟩ := of_mem.1 hxm
                have hxy := HL.out.1.2 _ hxl
                unfold Rw.may at hxy
                have hfrx : frF l ((ofR l f).getD k zR).s ((ofR l f).getD k zR).p = some f := by
                  have := (fr_iff HL.out.1.1 (s := ((ofR l f).getD k zR).s) (p := ((ofR l f).getD k zR).p) (f := ((ofR l f).getD k zR).f)).2 hxl
                  rwa [hxf] at this
                have hfm := frame_any (in_below HM.out HB.out) (s := ((ofR l f).getD k zR).s) (p := ((ofR l f).getD k zR).p) ⟨by omega, by omega⟩ ⟨by omega, by omega⟩
                rw [hfrx] at hfm
                have HNEW : Hid (∀ j, j < (allA l Fz i ++ (ofR l f).take k).length → ¬ (((allA l Fz i ++ (ofR l f).take k).getD j zR).s = ((ofR l f).getD k zR).s ∧ ((allA l Fz i ++ (ofR l f).take k).getD j zR).p = ((ofR l f).getD k zR).p)) := fun j hj => oal_new HL.out.1 HFS.out.1 HFE.out HI.out.1 hkl hj
                have HPUT : Hid (allA l Fz i ++ (ofR l f).take (k + 1) = (allA l Fz i ++ (ofR l f).take k) ++ [(ofR l f).getD k zR]) := oal_put hkl
                have hTL : (allA l Fz i ++ (ofR l f).take k).length ≤ 8192 := by
                  rw [List.length_append, List.length_take]
                  have h1 := oal_len (l := l) HFS.out.2.2.1 HFS.out.2.2.2 i
                  have h2 := HL.out.2
                  omega
                have HTL : Hid ((allA l Fz i ++ (ofR l f).take k).length ≤ 8192) := hTL
                generalize (ofR l f).getD k zR = x at *
                generalize allA l Fz i ++ (ofR l f).take k = T at *
                obtain ⟨xs, xp, xf⟩ := x
                simp only at x0 x1 HXC hfm HNEW HPUT
                unfold wv frV at hfm
                have hT9 : T.length ≤ 9223372036854775807 := by omega
                clear hat hxm hxl hxf hxy hfrx hTL
                go_wp2_with fail
                refine hfm.mono ?_
                rintro e w8 ⟨rfl, K8⟩
                have HB8 : Hid (Below wr.heap.size wr w8) := K8.out
                have HW8 : Hid (Below w3.heap.size w3 w8) := below_call' HB.out K8.out
                have HA8 : Hid (Row rWh w3.heap.size w8 u9 T) := HA.out.below K8.out
                obtain ⟨z0, hz0⟩ := HFC.out w8 HW8.out
                have HO8 : Hid (Row rWh 0 w8 (.slice (some ⟨g6, 0, none⟩) (ofR l f).length c6) (ofR l f) ∧ ∀ g, (Value.slice (some ⟨g6, 0, none⟩) (ofR l f).length c6).ownBlock = some g → u9.ownBlock ≠ some g) := ⟨HOF.out.1.below K8.out, HOF.out.2⟩
                clear hfm K8 HA HB x0 x1 hg6 HOF
                obtain ⟨at_, ct, ht⟩ := HA8.out.form
                subst ht
                go_wp2
                go_loopw [15] (fun jv wr => ∃ j : Nat, j ≤ T.length ∧ jv = .int .i64 j ∧ Hid (Below w8.heap.size w8 wr)) (fun jv _ => T.length - (intOf jv).toNat)
                case atStart => exact ⟨0, Nat.zero_le _, rfl, Below.refl _ _⟩
                case round =>
                  obtain ⟨j, hj, rfl, HB⟩ := hrel
                  by_cases hjl : j < T.length
                  · have hji : (j : Int) < (T.length : Int) := by omega
                    have hj0 : (0 : Int) ≤ (j : Int) := by omega
                    obtain ⟨gt, rfl, -, -, hgt, -, -, hat⟩ := (HA8.out.below HB.out).at hjl
                    obtain ⟨t0, t1⟩ := rWh.at hat
                    simp only [show rWh.n = 2 from rfl, show Rec.zero rWh = zR from rfl] at t0 t1
                    obtain ⟨x0, x1, hg6⟩ := HXC.out wr (below_call' HB8.out HB.out)
                    have hnew := HNEW.out j hjl
                    generalize T.getD j zR = y at *
                    have hq := fun w => eql_wh y.s y.p xs xp w
                    have hqb : (y.s == xs && y.p == xp) = false := by
                      rw [Bool.and_eq_false_iff, beq_eq_false_iff_ne, beq_eq_false_iff_ne]
                      by_cases e : y.s = xs
                      · exact Or.inr fun e2 => hnew ⟨e, e2⟩
                      · exact Or.inl e
                    rw [hqb] at hq
                    clear hat hnew hqb
                    go_wp2
                    go_quiet (fail)
                    go_wp2
                    go_roundw
                    case rel => exact ⟨j + 1, hjl, by go_num, below_drewN HB.out _⟩
                    case measure => simp only [intOf]; omega
                  · obtain rfl : j = T.length := by omega
                    obtain ⟨x0, x1, hg6⟩ := HXC.out wr (below_call' HB8.out HB.out)
                    have HAW : Hid (Row rWh w3.heap.size wr (.slice at_ T.length ct) T) := HA8.out.below HB.out
                    have HBW : Hid (Below w3.heap.size w3 wr) := below_call' HW8.out HB.out
                    have HOW : Hid (Row rWh 0 wr (.slice (some ⟨g6, 0, none⟩) (ofR l f).length c6) (ofR l f) ∧ ∀ g, (Value.slice (some ⟨g6, 0, none⟩) (ofR l f).length c6).ownBlock = some g → (Value.slice at_ T.length ct).ownBlock ≠ some g) := ⟨HO8.out.1.below HB.out, HO8.out.2⟩
                    have HRA : Hid (∀ o1, Row rWh w3.heap.size (wr.alloc o1) (.slice at_ T.length ct) T) := fun o1 => HAW.out.below (new_below _ _)
                    have HSZ : Hid (w3.heap.size ≤ wr.heap.size) := HBW.out.size
                    clear HA8 HB8 HB HW8 HO8 hj hjl
                    go_wp2_with (at_builtin; refine list_app' rWh.kin rfl _ _ rfl w3.heap.size _ T [⟨xs, xp, xf⟩] rfl (HRA.out _) (some ⟨wr.heap.size, 0, none⟩) 1 1 rfl rfl ?a2 ?a3 ?a4 ?a5 ?_)
                    case a2 => exact Seen.one (by simp) (At.new (R := rWh) wr ⟨xs, xp, xf⟩ _ rfl) 1
                    case a3 => have := HTL.out; show T.length + 1 ≤ maxLen; unfold maxLen; omega
                    case a4 => have := HTL.out; show (T.length + 1) * 16 ≤ 140737488355328; omega
                    case a5 => have := HSZ.out; simp; omega
                    intro v' w9 hrow hgrow hblk
                    have HR9 : Hid (Row rWh w3.heap.size w9 v' (allA l Fz i ++ (ofR l f).take (k + 1))) := by
                      show Row _ _ _ _ _
                      rw [HPUT.out]
                      exact hrow
                    have HB9 : Hid (Below w3.heap.size w3 w9) := (HBW.out.alloc HSZ.out _).grown hgrow (by have := HSZ.out; simp; omega) (fun q hq => ((HRA.out default).lt q hq).1)
                    have HO9 : Hid (Row rWh 0 w9 (.slice (some ⟨g6, 0, none⟩) (ofR l f).length c6) (ofR l f) ∧ ∀ g, (Value.slice (some ⟨g6, 0, none⟩) (ofR l f).length c6).ownBlock = some g → v'.ownBlock ≠ some g) := by
                      refine ⟨(HOW.out.1.below (new_below _ _)).kept hgrow (Or.inr fun e => HOW.out.2 g6 rfl e.symm), fun g hg e => ?_⟩
                      rcases hblk g e with h1 | h1
                      · exact HOW.out.2 g hg h1
                      · have h2 := (HOW.out.1.lt g hg).2
                        try simp at h1
                        omega
                    clear hrow hgrow hblk HAW HBW HOW HRA HSZ
                    go_wp2
                    go_roundw
                    case rel => exact ⟨k + 1, hkl, by go_num, HR9, HO9, HB9⟩
                    case measure => simp only [intOf]; omega
              · obtain rfl : k = (ofR l f).length := by omega
                have HAN : Hid (Row rWh w3.heap.size wr u9 (allA l Fz (i + 1))) := by
                  have := HA.out
                  rw [List.take_length, ← HFE.out, ← oal_next l HI.out.1] at this
                  exact this
                clear HA
                go_wp2
                go_roundw
                case rel => exact ⟨i + 1, hil, by go_num, HAN, HB⟩
                case measure => simp only [intOf]; omega
          · obtain rfl : i = Fz.length := by omega
            have HC : Hid ((allA l Fz Fz.length).length ≤ 4096 ∧ ((allA l Fz Fz.length).filter fun x => x.s == sp).length = (pagesR l sp).length) := ⟨by
              have h1 := oal_len (l := l) HFS.out.2.2.1 HFS.out.2.2.2 Fz.length
              have h2 := HL.out.2
              omega, by rw [oal_end]; exact oal_space HFS.out.2.2.1 HFS.out.2.2.2 sp⟩
            generalize allA l Fz Fz.length = T at *
            obtain ⟨at_, ct, ht⟩ := HA.out.form
            subst ht
            have hpg := pages_any (in_below HM.out HB.out) HSP.out
            go_wp2_with fail
            refine hpg.mono ?_
            rintro e w5 ⟨a5, c5, rfl, K5⟩
            have HB5 : Hid (Below w3.heap.size w3 w5) := below_call' HB.out K5.out.frame
            have HA5 : Hid (Row rWh w3.heap.size w5 (.slice at_ T.length ct) T) := HA.out.below K5.out.frame
            rw [← HC.out.2]
            have hT9 : T.length ≤ 9223372036854775807 := by have := HC.out.1; omega
            clear hpg K5 HA HB hi hil
            go_wp2
            go_loopw [17, 18] (fun nv iv wr => ∃ i : Nat, i ≤ T.length ∧ iv = .int .i64 i ∧ nv = .int .i64 (cntR (fun x => x.s == sp) T i : Nat) ∧ Hid (Below w5.heap.size w5 wr)) (fun _ iv _ => T.length - (intOf iv).toNat)
            case atStart => exact ⟨0, Nat.zero_le _, rfl, by rw [cnt_zero]; rfl, Below.refl _ _⟩
            case round =>
              obtain ⟨i, hi, rfl, rfl, HB⟩ := hrel
              by_cases hil : i < T.length
              · have hii : (i : Int) < (T.length : Int) := by omega
                have hi0 : (0 : Int) ≤ (i : Int) := by omega
                obtain ⟨g, rfl, -, -, hgl, -, -, hat⟩ := (HA5.out.below HB.out).at hil
                obtain ⟨y0, -⟩ := rWh.at hat
                simp only [show rWh.n = 2 from rfl, show Rec.zero rWh = zR from rfl] at y0
                have hcn := cnt_next (fun x : Rw => x.s == sp) hil
                have hcl := cnt_le (fun x : Rw => x.s == sp) T (i + 1)
                have hcl2 : (T.filter fun x : Rw => x.s == sp).length ≤ T.length := List.length_filter_le _ _
                have hxe : T[i] = T.getD i zR := by rw [List.getD_eq_getElem?_getD, List.getElem?_eq_getElem hil]; rfl
                rw [hxe] at hcn
                have HC1 := HC.out.1
                by_cases e : (T.getD i zR).s = sp
                · have hxb : ((T.getD i zR).s == sp) = true := by simpa using e
                  rw [hxb, if_pos rfl] at hcn
                  have hb9 : cntR (fun x => x.s == sp) T i ≤ 9223372036854775806 := by omega
                  have HCN : Hid (cntR (fun x => x.s == sp) T (i + 1) = cntR (fun x => x.s == sp) T i + 1) := hcn
                  clear hcn hcl hcl2 hxe hat HC1 e
                  generalize T.getD i zR = x at *
                  generalize cntR (fun x => x.s == sp) T i = ci at *
                  go_wp2
                  go_roundw
                  case rel => exact ⟨i + 1, hil, by go_num, by rw [HCN.out]; go_num, HB⟩
                  case measure => simp only [intOf]; omega
                · have hxb : ((T.getD i zR).s == sp) = false := by simpa using e
                  rw [hxb, if_neg (by simp)] at hcn
                  have HCN : Hid (cntR (fun x => x.s == sp) T (i + 1) = cntR (fun x => x.s == sp) T i) := hcn
                  clear hcn hcl hcl2 hxe hat HC1 e
                  generalize T.getD i zR = x at *
                  generalize cntR (fun x => x.s == sp) T i = ci at *
                  go_wp2
                  go_roundw
                  case rel => exact ⟨i + 1, hil, by go_num, by rw [HCN.out], HB⟩
                  case measure => simp only [intOf]; omega
              · obtain rfl : i = T.length := by omega
                rw [cnt_all]
                have HE : Hid (Below w.heap.size w wr) := below_call' HB3.out (below_call' HB5.out HB.out)
                go_wp2
                go_ret
                exact ⟨rfl, HE.out⟩
end Go.Proofs.Ytdeaniigimmoaaa
