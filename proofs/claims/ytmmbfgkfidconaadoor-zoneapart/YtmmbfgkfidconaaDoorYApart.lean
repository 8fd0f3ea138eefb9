/- ZoneApart, walked. -/
import Derived.Test.YtmmbfgkfidconaaDoorYStays
import Derived.Deep.CutRange
import Derived.Lib.ItoaWalk
namespace Go.Proofs.YtmmbfgkfidconaaDoor
open Go.RowKit

/-- There is a room that is enough in an open group of the sort. -/
def hasR (gs : List Gp) (L : List Bk) (s : Int) (o : Nat) : Prop := ∃ r, Cn gs L (some s) o r
theorem take_map1 (gs : List Gp) {g : Nat} (h : g < gs.length) : (gs.map (·.1)).take (g + 1) = (gs.map (·.1)).take g ++ [(gs.getD g (0, false)).1] := by
  rw [List.take_add_one, List.getElem?_map, List.getD_eq_getElem?_getD, List.getElem?_eq_getElem h]
  rfl
theorem hasR.of {n : Nat} {gs : List Gp} {L : List Bk} {s : Int} {o g x : Nat} (ho : Okl n L) (hk : gok gs (some s) g) (h3 : o ≤ 3) (hd : 2 ^ o ∣ x) (h1 : g * 8 ≤ x) (h2 : x + 2 ^ o ≤ g * 8 + 8) (hc : ∀ j, j < 2 ^ o → cov L (x + j)) : hasR gs L s o := by
  obtain ⟨r, r1, r2, r4⟩ := Rm.of_free ho (c := (x, o)) h3 hd (fun y hy => by
    obtain ⟨a, b⟩ := hy
    have a' : x ≤ y := a
    have b' : y < x + 2 ^ o := b
    have := hc (y - x) (by omega)
    rwa [show x + (y - x) = y by omega] at this)
  refine ⟨r, r1, r2, ?_⟩
  have e : r.1 / 8 = g := by
    rw [r4]
    show x / 8 = g
    have := Nat.two_pow_pos o
    omega
  rw [e]
  exact hk
theorem map_getD1 (gs : List Gp) {g : Nat} (h : g < gs.length) : (gs.map (·.1)).getD g 0 = (gs.getD g (0, false)).1 := by
  rw [List.getD_eq_getElem?_getD, List.getD_eq_getElem?_getD, List.getElem?_map, List.getElem?_eq_getElem h]
  rfl
set_option maxRecDepth 100000 in
set_option maxHeartbeats 64000000 in
theorem walk_zoneApart (a0 : Int) (ao : Option Addr) (len cap : Nat) (D : Nat → YDd) (w : World) (hT : Tab w) (b0 : -9223372036854775808 ≤ a0 ∧ a0 ≤ 9223372036854775807) (hm : len ≤ maxLen) (hL : Lst YDd.cells YDd.ok 4 w ao len D) :
    Calls Tryd.prog 5 #[.int .i64 a0, .slice ao len cap] w fun e w' => e = .returned (.bool true) ∧ Below w.heap.size w w' := by
  have hU := up8_any w hT
  have hP0 := fun w => pick8_any a0 70 w b0.1 b0.2 (by decide) (by decide)
  have l0 := pickN_lt a0 70 (by decide)
  obtain ⟨n, hn⟩ : ∃ n, n = 1 + pickN a0 70 := ⟨_, rfl⟩
  have hnz : (1 : Int) + (pickN a0 70 : Int) = (n : Int) := by omega
  have hn1 : 1 ≤ n := by omega
  have hn2 : n ≤ 70 := by omega
  have hmz : len ≤ 9223372036854775807 := by unfold maxLen at hm; omega
  have HT : Hid (Tab w) := hT
  have HL : Hid (Lst YDd.cells YDd.ok 4 w ao len D) := hL
  clear hT hn hL hm
  go_enter Tryd.func5, Tryd.ntmps5
  go_wp2_with fail
  refine hU.mono ?_
  rintro e w1 ⟨rfl, hb1⟩
  have hN := znNew (G := fun _ => False) HT.out hb1 (fun _ h => h.elim) n hn1 (by omega)
  clear hU
  go_wp2_with (go_at_call 12; refine (hP0 _).mono ?_; rintro e w2 ⟨rfl, hw⟩; obtain rfl := hw.symm; clear hw)
  refine hN.mono ?_
  rintro e w2 ⟨z, rfl, O2, -⟩
  have HO2 : Hid (Zn w w2 z n (blkL 0 n) (List.replicate ((n + 7) / 8) (1, false)) (fun _ => False)) := O2
  clear hN hb1 hP0 O2
  go_wp2_with fail
  go_loopw [8] (fun iv W => ∃ (k : Nat) (L : List Bk) (gs : List Gp), k ≤ len ∧ k ≤ 60 ∧ iv = .int .i64 k ∧ Hid (Zn w W z n L gs (fun _ => False))) (fun iv _ => len - (intOf iv).toNat)
  case atStart => exact ⟨0, _, _, Nat.zero_le _, by omega, rfl, HO2⟩
  case round =>
    obtain ⟨k, L, gs, hk, hk8, rfl, HI⟩ := hrel
    clear HO2
    by_cases hlt : k < len ∧ k < 60
    · have hz1 : (k : Int) < (len : Int) := by omega
      have hz2 : (k : Int) < 60 := by omega
      obtain ⟨bb, off, rfl, hbw, hal⟩ := (HL.out.below HI.out.frame).at hlt.1
      obtain ⟨hok, hcl⟩ := hal k hlt.1
      have c0 := hcl 0 (by decide)
      have c1 := hcl 1 (by decide)
      have c2 := hcl 2 (by decide)
      have c3 := hcl 3 (by decide)
      simp [YDd.cells] at c0 c1 c2 c3
      obtain ⟨⟨p1, p2⟩, ⟨q1, q2⟩, ⟨s1, s2⟩, hdf⟩ := hok
      have hPa := fun w => pick8_any (D k).what 4 w p1 p2 (by decide) (by decide)
      have hPb := fun w => pick8_any (D k).sort 2 w q1 q2 (by decide) (by decide)
      have hPc := fun w => pick8_any (D k).order 4 w s1 s2 (by decide) (by decide)
      generalize hda : D k = dd at *
      obtain ⟨dw, ds, dor, df⟩ := dd
      simp only at *
      have lb := pickN_lt ds 2 (by decide)
      have lc := pickN_lt dor 4 (by decide)
      obtain ⟨mi, hmi⟩ : ∃ mi : Int, (pickN dw 4 : Int) = mi := ⟨_, rfl⟩
      rw [hmi] at hPa
      generalize pickN ds 2 = so at *
      generalize pickN dor 4 = o at *
      have hba : Below wr.heap.size wr (wr.alloc (.cells #[.int .i64 dw, .int .i64 ds, .int .i64 dor, .int .i64 df] 36)) := (Below.refl _ _).alloc (Nat.le_refl _) _
      have HP : Hid (Zn w (wr.alloc (.cells #[.int .i64 dw, .int .i64 ds, .int .i64 dor, .int .i64 df] 36)) z n L gs (fun _ => False) ∧ Laid (wr.alloc (.cells #[.int .i64 dw, .int .i64 ds, .int .i64 dor, .int .i64 df] 36)) wr.heap.size 36 #[.int .i64 dw, .int .i64 ds, .int .i64 dor, .int .i64 df]) := ⟨HI.out.below hba, Laid.new _ _ _⟩
      clear hal hcl hda HI hba hmi
      go_upto_region 10 with fail
      go_name_world W0 hW0
      have P0 : Zn w W0 z n L gs (fun _ => False) ∧ Laid W0 wr.heap.size 36 #[.int .i64 dw, .int .i64 ds, .int .i64 dor, .int .i64 df] := by rw [← hW0]; exact HP.out
      clear hW0 HP c0 c1 c2 c3
      generalize wr.heap.size = db at *
      have HP0 : Hid (Zn w W0 z n L gs (fun _ => False) ∧ Laid W0 db 36 #[.int .i64 dw, .int .i64 ds, .int .i64 dor, .int .i64 df]) := P0
      have d0 := P0.2.cell 0
      have d1 := P0.2.cell 1
      have d2 := P0.2.cell 2
      have d3 := P0.2.cell 3
      simp at d0 d1 d2 d3
      clear P0
      go_wp2_with fail
      refine (hPa _).mono ?_
      rintro e w5 ⟨rfl, hw⟩
      obtain rfl := hw.symm
      clear hw hPa
      by_cases hm0 : mi = 0
      · subst hm0
        clear hPb hPc
        have hC := HP0.out.1.closed df
        by_cases hr : 0 ≤ df ∧ df < (gs.length : Int)
        · obtain ⟨gi, rfl⟩ : ∃ gi : Nat, df = gi := ⟨df.toNat, by omega⟩
          have hgi : gi < gs.length := by omega
          rw [gclB_nat gs hgi] at hC
          cases hcl : (gs.getD gi (0, false)).2 with
          | true =>
            as_aux_lemma =>
            obtain ⟨r, hrr⟩ : ∃ r : Bool, r = true ↔ grpFree L n gi := by
              by_cases h : grpFree L n gi
              · exact ⟨true, fun _ => h, fun _ => rfl⟩
              · exact ⟨false, fun e => (by cases e), fun e => absurd e h⟩
            have hK := HP0.out.1.open gi hgi hcl r hrr
            rw [hcl] at hC
            clear hrr hcl hr
            go_wp2_with (go_at_call 23; refine hC.mono ?_; rintro e w5 ⟨rfl, hw⟩; obtain rfl := hw.symm; clear hw)
            refine hK.mono ?_
            rintro e w6 ⟨rfl, O6, -⟩
            have HO6 : Hid (Zn w w6 z n L (openG gs gi r) (fun _ => False)) := O6
            clear hK hC O6 HP0 d0 d1 d2 d3
            go_wp2
            go_roundw
            case rel => exact ⟨k + 1, _, _, by omega, by omega, by go_num, HO6⟩
            case measure => simp only [intOf]; omega
          | false =>
            as_aux_lemma =>
            have hK := HP0.out.1.close gi hgi hcl
            rw [hcl] at hC
            clear hcl hr
            go_wp2_with (go_at_call 23; refine hC.mono ?_; rintro e w5 ⟨rfl, hw⟩; obtain rfl := hw.symm; clear hw)
            refine hK.mono ?_
            rintro e w6 ⟨rfl, O6, -⟩
            have HO6 : Hid (Zn w w6 z n L (closeG gs gi) (fun _ => False)) := O6
            clear hK hC O6 HP0 d0 d1 d2 d3
            go_wp2
            go_roundw
            case rel => exact ⟨k + 1, _, _, by omega, by omega, by go_num, HO6⟩
            case measure => simp only [intOf]; omega
        · as_aux_lemma =>
          have hK := HP0.out.1.closeNo df hr
          rw [gclB_no gs hr] at hC
          clear hr
          go_wp2_with (go_at_call 23; refine hC.mono ?_; rintro e w5 ⟨rfl, hw⟩; obtain rfl := hw.symm; clear hw)
          refine hK.mono ?_
          rintro e w6 ⟨rfl, O6, -⟩
          have HO6 : Hid (Zn w w6 z n L gs (fun _ => False)) := O6
          clear hK hC O6 HP0 d0 d1 d2 d3
          go_wp2
          go_roundw
          case rel => exact ⟨k + 1, _, _, by omega, by omega, by go_num, HO6⟩
          case measure => simp only [intOf]; omega
      · have hmb : (mi == 0) = false := beq_eq_false_iff_ne.2 hm0
        clear hm0 hdf
        go_wp2_with fail
        refine (hPb _).mono ?_
        rintro e w5 ⟨rfl, hw⟩
        obtain rfl := hw.symm
        clear hw hPb
        go_wp2_with fail
        refine (hPc _).mono ?_
        rintro e w5 ⟨rfl, hw⟩
        obtain rfl := hw.symm
        clear hw hPc d0 d1 d2 d3
        have hg6 : gs.length ≤ 64 := by have := HP0.out.1.len.1; omega
        have hpo : (0 : Int) < 2 ^ o := Int.pow_pos (by decide)
        have hpn : ((2 ^ o : Nat) : Int) = 2 ^ o := by simp
        have hpo2 : (2 : Int) ^ o ≤ 8 := by
          have h1 : (2 : Nat) ^ o ≤ 2 ^ 3 := Nat.pow_le_pow_right (by decide) (by omega)
          omega
        have hpne : ¬ (2 : Int) ^ o = 0 := by omega
        have HOK : Hid (Okl n L ∧ gs.length = (n + 7) / 8) := ⟨HP0.out.1.ok, HP0.out.1.len.1⟩
        have HZ : Hid (∀ W, Below W0.heap.size W0 W → Zn w W z n L gs (fun _ => False)) := fun W hb => HP0.out.1.below hb
        have HPN : Hid (((2 ^ o : Nat) : Int) = 2 ^ o) := hpn
        clear HP0 hpn
        go_wp2_with fail
        go_loopw [12, 13, 14] (fun v rv iv W => ∃ (g : Nat) (rb : Bool), g ≤ gs.length ∧ rv = .bool rb ∧ iv = .int .i64 g ∧ Hid (Row rI W0.heap.size W v ((gs.map (·.1)).take g) ∧ Below W0.heap.size W0 W ∧ (rb = true → hasR gs L so o))) (fun _ _ iv _ => gs.length - (intOf iv).toNat)
        case atStart => exact ⟨0, false, Nat.zero_le _, rfl, rfl, Row.nil _ _ _, Below.refl _ _, fun h => by cases h⟩
        case round =>
          obtain ⟨g, rb, hg, rfl, rfl, HI⟩ := hrel
          have hGr := (HZ.out wr HI.out.2.1).groups
          by_cases hgl : g < gs.length
          · as_aux_lemma =>
            have hgz : (g : Int) < (gs.length : Int) := by omega
            have hSo := (HZ.out wr HI.out.2.1).sort g hgl
            have HGO : Hid (gok gs (some (so : Int)) g ↔ (gs.getD g (0, false)).2 = false ∧ (gs.getD g (0, false)).1 = (so : Int)) := gok_iff hgl so
            have HTK : Hid ((gs.map (·.1)).take (g + 1) = (gs.map (·.1)).take g ++ [(gs.getD g (0, false)).1]) := take_map1 gs hgl
            have HCL : Hid (∀ W, Below W0.heap.size W0 W → Calls Tryd.prog 23 #[.pointer (some ⟨z, 0, none⟩), .int .i64 g] W fun e w' => e = .returned (.bool (gs.getD g (0, false)).2) ∧ w' = W) := fun W hb => by
              have h := (HZ.out W hb).closed g
              rwa [gclB_nat gs hgl] at h
            generalize gs.getD g (0, false) = gg at *
            obtain ⟨sg, cg⟩ := gg
            simp only at HGO HTK HCL hSo
            have hlp : ((gs.map (·.1)).take g).length = g := by rw [List.length_take, List.length_map]; omega
            generalize (gs.map (·.1)).take g = PL at *
            have HI1 : Hid (Row rI W0.heap.size (wr.alloc (.cells #[.int .i64 sg] 3)) u12 PL ∧ Below W0.heap.size W0 (wr.alloc (.cells #[.int .i64 sg] 3)) ∧ (rb = true → hasR gs L so o)) :=
              have hb : Below wr.heap.size wr (wr.alloc (.cells #[.int .i64 sg] 3)) := (Below.refl _ _).alloc (Nat.le_refl _) _
              ⟨HI.out.1.below hb, below_call' HI.out.2.1 hb, HI.out.2.2⟩
            clear HI
            go_wp2_with (first | (go_at_call 24; refine hGr.mono ?_; rintro e w5 ⟨rfl, hw⟩; obtain rfl := hw.symm; clear hw hGr) | (go_at_call 25; refine hSo.mono ?_; rintro e w5 ⟨rfl, hw⟩; obtain rfl := hw.symm; clear hw hSo) | (at_builtin; refine list_app rI.kin rfl _ _ rfl W0.heap.size _ PL [sg] rfl HI1.out.1 (some ⟨wr.heap.size, 0, none⟩) 1 1 rfl rfl ?a2 ?a3 ?a4 ?a5 ?_))
            case a2 => exact Seen.one (by simp) (At.new (R := rI) _ sg _ rfl) 1
            case a3 => simp only [hlp, List.length_cons, List.length_nil]; unfold maxLen; omega
            case a4 => simp only [hlp, List.length_cons, List.length_nil, show rI.bytes = 8 from rfl]; omega
            case a5 => have := HI1.out.2.1.size; simp at this ⊢; omega
            intro v2 w2 hr2 hg2
            have hb2 : Below W0.heap.size W0 w2 := HI1.out.2.1.grown hg2 HI1.out.2.1.size (fun g' hg' => (HI1.out.1.lt g' hg').1)
            have hCl := HCL.out w2 hb2
            have HI2 : Hid (Row rI W0.heap.size w2 v2 ((gs.map (·.1)).take (g + 1)) ∧ Below W0.heap.size W0 w2 ∧ (rb = true → hasR gs L so o)) := ⟨by rw [HTK.out]; exact hr2, hb2, HI1.out.2.2⟩
            clear hr2 hg2 hb2 HI1 HCL hlp HTK
            go_wp2_with (go_at_call 23; refine hCl.mono ?_; rintro e w5 ⟨rfl, hw⟩; obtain rfl := hw.symm; clear hw hCl)
            go_loopw [13, 18] (fun rv av W => ∃ (rb : Bool) (x : Nat), g * 8 ≤ x ∧ x ≤ g * 8 + 8 ∧ rv = .bool rb ∧ av = .int .i64 x ∧ Hid (Row rI W0.heap.size W v2 ((gs.map (·.1)).take (g + 1)) ∧ Below W0.heap.size W0 W ∧ (rb = true → hasR gs L so o))) (fun _ av _ => g * 8 + 8 - (intOf av).toNat)
            case atStart => exact ⟨rb, g * 8, Nat.le_refl _, by omega, rfl, by go_num, HI2⟩
            case round =>
              obtain ⟨rb, x, hx1, hx2, rfl, rfl, HJ⟩ := hrel
              clear HI2
              by_cases hin : (x < g * 8 + 8 ∧ cg = false) ∧ sg = (so : Int)
              · obtain ⟨⟨hx3, rfl⟩, rfl⟩ := hin
                have hxz : (x : Int) < (g : Int) * 8 + 8 := by omega
                have HOG : Hid (gok gs (some (so : Int)) g) := HGO.out.2 ⟨rfl, rfl⟩
                clear HGO
                have hsb : ((so : Int) == (so : Int)) = true := by simp
                go_upto_region 29 with fail
                go_cut [19] from 118 to 132 (fun s19 W => ∃ ab : Bool, s19 = .bool ab ∧ Hid ((ab = true → 2 ^ o ∣ x ∧ x + 2 ^ o ≤ g * 8 + 8) ∧ Row rI W0.heap.size W v2 ((gs.map (·.1)).take (g + 1)) ∧ Below W0.heap.size W0 W ∧ (rb = true → hasR gs L so o)))
                case first =>
                  have HF0 : Hid ((false = true → 2 ^ o ∣ x ∧ x + 2 ^ o ≤ g * 8 + 8) ∧ Row rI W0.heap.size wr v2 ((gs.map (·.1)).take (g + 1)) ∧ Below W0.heap.size W0 wr ∧ (rb = true → hasR gs L so o)) := ⟨(fun h => by cases h), HJ.out⟩
                  by_cases hm : x % 2 ^ o = 0
                  · have hrem : (x : Int) % 2 ^ o = 0 := by rw [← HPN.out, ← Int.natCast_emod, hm]; rfl
                    by_cases hle : (x : Int) + 2 ^ o ≤ (g : Int) * 8 + 8
                    · have HD : Hid (2 ^ o ∣ x ∧ x + 2 ^ o ≤ g * 8 + 8) := ⟨Nat.dvd_of_mod_eq_zero hm, by have := HPN.out; omega⟩
                      clear hm
                      go_wp2_with fail
                      go_meet
                      exact ⟨true, rfl, fun _ => HD.out, HJ.out⟩
                    · clear hm
                      go_wp2_with fail
                      go_meet
                      exact ⟨false, rfl, HF0⟩
                  · have hrem : ¬ (x : Int) % 2 ^ o = 0 := by rw [← HPN.out, ← Int.natCast_emod]; omega
                    clear hm
                    go_wp2_with fail
                    go_meet
                    exact ⟨false, rfl, HF0⟩
                case rest =>
                obtain ⟨ab0, rfl, HA⟩ := hcut
                clear HJ hsb
                apply_assumption
                go_wp2_with fail
                go_loopw [19, 20] (fun bv kv W => ∃ (ab : Bool) (j : Nat), j ≤ 2 ^ o ∧ bv = .bool ab ∧ kv = .int .i64 j ∧ Hid ((ab = true → (2 ^ o ∣ x ∧ x + 2 ^ o ≤ g * 8 + 8) ∧ ∀ i, i < j → cov L (x + i)) ∧ Row rI W0.heap.size W v2 ((gs.map (·.1)).take (g + 1)) ∧ Below W0.heap.size W0 W ∧ (rb = true → hasR gs L so o))) (fun _ kv _ => 2 ^ o - (intOf kv).toNat)
                case atStart => exact ⟨ab0, 0, Nat.zero_le _, rfl, rfl, fun h => ⟨HA.out.1 h, fun i hi => by omega⟩, HA.out.2⟩
                case round =>
                  obtain ⟨ab, j, hj, rfl, rfl, HK⟩ := hrel
                  clear HA
                  by_cases hjk : j < 2 ^ o ∧ ab = true
                  · obtain ⟨hj1, rfl⟩ := hjk
                    have hjz : (j : Int) < 2 ^ o := by have := HPN.out; omega
                    have hj8 : j ≤ 8 := by omega
                    have hF := (HZ.out wr HK.out.2.2.1).isFree ((x : Int) + j)
                    have hfe : freeB L ((x : Int) + j) = covB L (x + j) := by rw [show (x : Int) + (j : Int) = ((x + j : Nat) : Int) by simp, nat_free']
                    rw [hfe] at hF
                    obtain ⟨ab2, hab⟩ : ∃ b, covB L (x + j) = b := ⟨_, rfl⟩
                    rw [hab] at hF
                    have HAB : Hid (covB L (x + j) = ab2) := hab
                    clear hfe hab
                    go_wp2_with fail
                    refine hF.mono ?_
                    rintro e w5 ⟨rfl, hb5⟩
                    have HK5 : Hid ((ab2 = true → (2 ^ o ∣ x ∧ x + 2 ^ o ≤ g * 8 + 8) ∧ ∀ i, i < j + 1 → cov L (x + i)) ∧ Row rI W0.heap.size w5 v2 ((gs.map (·.1)).take (g + 1)) ∧ Below W0.heap.size W0 w5 ∧ (rb = true → hasR gs L so o)) := ⟨fun h => ⟨(HK.out.1 trivial).1, fun i hi => by
                      rcases Nat.lt_or_ge i j with c | c
                      · exact (HK.out.1 trivial).2 i c
                      · obtain rfl : i = j := by omega
                        exact (covB_iff _ _).1 (HAB.out.trans h)⟩, HK.out.2.1.below hb5, below_call' HK.out.2.2.1 hb5, HK.out.2.2.2⟩
                    clear HK HAB hb5 hF
                    go_wp2
                    go_roundw
                    case rel => exact ⟨ab2, j + 1, hj1, rfl, by go_num, HK5⟩
                    case measure => simp only [intOf]; omega
                  · have hx : (¬ (j : Int) < 2 ^ o) ∨ ((j : Int) < 2 ^ o ∧ ab = false) := by
                      have := HPN.out
                      cases ab with
                      | true =>
                        refine Or.inl fun h => hjk ⟨by omega, rfl⟩
                      | false => by_cases h : (j : Int) < 2 ^ o <;> simp [h]
                    have HR : Hid (∀ b : Bool, (b = true → rb = true ∨ (ab = true ∧ ¬ (j : Int) < 2 ^ o)) → b = true → hasR gs L so o) := fun b h e => by
                      rcases h e with c | ⟨c, c2⟩
                      · exact HK.out.2.2.2 c
                      · have := HPN.out
                        obtain rfl : j = 2 ^ o := by omega
                        exact hasR.of HOK.out.1 HOG.out (by omega) (HK.out.1 c).1.1 hx1 (HK.out.1 c).1.2 (HK.out.1 c).2
                    have HK2 : Hid (Row rI W0.heap.size wr v2 ((gs.map (·.1)).take (g + 1)) ∧ Below W0.heap.size W0 wr) := ⟨HK.out.2.1, HK.out.2.2.1⟩
                    clear hjk HK hj
                    rcases hx with h1 | ⟨h1, rfl⟩
                    · have HN : Hid (¬ (j : Int) < 2 ^ o) := h1
                      cases rb with
                      | true =>
                        go_wp2
                        go_roundw
                        case rel => exact ⟨true, x + 1, by omega, by omega, rfl, by go_num, HK2.out.1, HK2.out.2, HR.out true (fun _ => Or.inl rfl)⟩
                        case measure => simp only [intOf]; omega
                      | false =>
                        go_wp2
                        go_roundw
                        case rel => exact ⟨ab, x + 1, by omega, by omega, rfl, by go_num, HK2.out.1, HK2.out.2, HR.out ab (fun h => Or.inr ⟨h, HN.out⟩)⟩
                        case measure => simp only [intOf]; omega
                    · cases rb with
                      | true =>
                        go_wp2
                        go_roundw
                        case rel => exact ⟨true, x + 1, by omega, by omega, rfl, by go_num, HK2.out.1, HK2.out.2, HR.out true (fun _ => Or.inl rfl)⟩
                        case measure => simp only [intOf]; omega
                      | false =>
                        go_wp2
                        go_roundw
                        case rel => exact ⟨false, x + 1, by omega, by omega, rfl, by go_num, HK2.out.1, HK2.out.2, fun h => by cases h⟩
                        case measure => simp only [intOf]; omega
              · have hx : (¬ (x : Int) < (g : Int) * 8 + 8) ∨ ((x : Int) < (g : Int) * 8 + 8 ∧ cg = true) ∨ ((x : Int) < (g : Int) * 8 + 8 ∧ cg = false ∧ ¬ sg = (so : Int)) := by
                  cases cg with
                  | true => by_cases h : (x : Int) < (g : Int) * 8 + 8 <;> simp [h]
                  | false =>
                    by_cases h : (x : Int) < (g : Int) * 8 + 8
                    · refine Or.inr (Or.inr ⟨h, rfl, fun e => hin ⟨⟨by omega, rfl⟩, e⟩⟩)
                    · exact Or.inl h
                clear hin HGO
                rcases hx with h1 | ⟨h1, rfl⟩ | ⟨h1, rfl, h2⟩
                · go_wp2
                  go_roundw
                  case rel => exact ⟨g + 1, rb, by omega, rfl, by go_num, HJ⟩
                  case measure => simp only [intOf]; omega
                · go_wp2
                  go_roundw
                  case rel => exact ⟨g + 1, rb, by omega, rfl, by go_num, HJ⟩
                  case measure => simp only [intOf]; omega
                · have h3 : (sg == (so : Int)) = false := beq_eq_false_iff_ne.2 h2
                  go_wp2
                  go_roundw
                  case rel => exact ⟨g + 1, rb, by omega, rfl, by go_num, HJ⟩
                  case measure => simp only [intOf]; omega
          · as_aux_lemma =>
            have hgz : ¬ (g : Int) < (gs.length : Int) := by omega
            obtain rfl : g = gs.length := by omega
            have O1 := (HZ.out W0 (Below.refl _ _)).more HI.out.2.1
            have R1 : Row rI W0.heap.size wr u12 (gs.map (·.1)) := by
              have h := HI.out.1
              rwa [List.take_of_length_le (by simp)] at h
            obtain ⟨aw, cw, hv⟩ := R1.form
            rw [List.length_map] at hv
            subst hv
            obtain ⟨G, hG⟩ : ∃ G : Nat → Prop, G = plus (fun _ => False) W0 wr := ⟨_, rfl⟩
            rw [← hG] at O1
            have HR1 : Hid (Row rI W0.heap.size wr (.slice aw gs.length cw) (gs.map (·.1)) ∧ ∀ b, (Value.slice aw gs.length cw).ownBlock = some b → G b) := ⟨R1, fun b hb => by rw [hG]; exact Or.inr (R1.lt b hb)⟩
            have HRB : Hid (rb = true → hasR gs L so o) := HI.out.2.2
            obtain ⟨res, hres⟩ := zp_ex (gs := gs) HOK.out.1 (so : Int) o
            have hK := O1.take HT.out (so : Int) (by omega) o (by omega) hres
            have HZP : Hid (Zp gs L so o res) := hres
            clear HI R1 hG O1 hres HZ hgl hg hpo hpo2 hpne HPN
            unfold TakeW at hK
            cases res with
            | none =>
              have hrb : rb = false := by
                cases rb with
                | false => rfl
                | true =>
                  obtain ⟨r, e, _⟩ := HZP.out.sort (HRB.out rfl)
                  cases e
              subst hrb
              simp only at hK
              clear HR1 HRB HZP
              go_wp2_with (go_at_call 24; refine hGr.mono ?_; rintro e w5 ⟨rfl, hw⟩; obtain rfl := hw.symm; clear hw hGr)
              refine hK.mono ?_
              rintro e w6 ⟨rfl, O6, -⟩
              have HO6 : Hid (Zn w w6 z n L gs (fun _ => False)) := O6.less (fun _ h => h.elim)
              clear hK O6
              go_wp2
              go_roundw
              case rel => exact ⟨k + 1, L, gs, by omega, by omega, by go_num, HO6⟩
              case measure => simp only [intOf]; omega
            | some r =>
              simp only at hK
              have hblk := HZP.out.block HOK.out.1
              obtain ⟨f, ro⟩ := r
              simp only at hblk hK
              obtain ⟨gi, hgi⟩ : ∃ gi, f / 8 = gi := ⟨_, rfl⟩
              rw [hgi] at hblk hK
              have hgil : gi < gs.length := hblk.2.2.2.1
              have hgiz : (gi : Int) < (gs.length : Int) := by omega
              have hf5 : f ≤ 512 := by have := hblk.2.1; have : bend (f, o) = f + 2 ^ o := rfl; have := Nat.two_pow_pos o; have := HOK.out.2; omega
              have hfz : (f : Int) / 8 = (gi : Int) := by omega
              have hv0 : ((gs.map (·.1)).getD gi 0) = (gs.getD gi (0, false)).1 := map_getD1 gs hgil
              have HSO : Hid (rb = true → (gs.getD gi (0, false)).1 = (so : Int)) := fun h => by
                obtain ⟨r', e, hc⟩ := HZP.out.sort (HRB.out h)
                cases e
                have h3 := hc.2.2
                simp only at h3
                rw [hgi] at h3
                exact ((gok_iff hgil so).1 h3).2
              clear hblk HRB HZP hgi
              go_wp2_with (go_at_call 24; refine hGr.mono ?_; rintro e w5 ⟨rfl, hw⟩; obtain rfl := hw.symm; clear hw hGr)
              refine hK.mono ?_
              rintro e w6 ⟨rfl, L6, O6, S6, -⟩
              have R6 := S6.row HR1.out.1 HR1.out.2
              have hS6 := O6.sort gi (by simpa using hgil)
              rw [getD_set gs hgil] at hS6
              have hC6 := O6.closed gi
              rw [gclB_nat _ (by simpa using hgil), getD_set gs hgil] at hC6
              simp only at hS6 hC6
              have HO6 : Hid (Zn w w6 z n L6 (gs.set gi ((so : Int), false)) G) := O6
              have hab : aw = aw := rfl
              obtain ⟨bk, rfl, -, -, hbk, -, -, at6⟩ := R6.at (k := gi) (by rw [List.length_map]; exact hgil)
              have c6 := rI.at at6
              simp only [show rI.n = 1 from rfl, show rI.zero = (0 : Int) from rfl, Nat.mul_one] at c6
              rw [hv0] at c6
              have HR6 : Hid (Row rI W0.heap.size w6 (.slice (some ⟨bk, 0, none⟩) gs.length cw) (gs.map (·.1))) := R6
              have hss : ((so : Int) != (so : Int)) = false := by simp
              clear hK S6 O6 R6 HR1 hab at6 hv0
              have HG6 : Hid (rb = false ∨ (gs.getD gi (0, false)).1 = (so : Int)) := by
                cases rb with
                | false => exact Or.inl rfl
                | true => exact Or.inr (HSO.out rfl)
              clear HSO
              go_upto_region 42 with (go_at_call 25; refine hS6.mono ?_; rintro e w5 ⟨rfl, hw⟩; obtain rfl := hw.symm; clear hw hS6)
              go_cut [201] from 177 to 201 (fun s201 W => s201 = .bool false ∧ w6 = W)
              case first =>
                rcases HG6.out with rfl | h6
                · clear c6
                  go_wp2_with (go_at_call 23; refine hC6.mono ?_; rintro e w5 ⟨rfl, hw⟩; obtain rfl := hw.symm; clear hw hC6)
                  go_meet
                  exact ⟨rfl, rfl⟩
                · rw [h6] at c6
                  cases rb with
                  | false =>
                    go_wp2_with (go_at_call 23; refine hC6.mono ?_; rintro e w5 ⟨rfl, hw⟩; obtain rfl := hw.symm; clear hw hC6)
                    go_meet
                    exact ⟨rfl, rfl⟩
                  | true =>
                    go_wp2_with (go_at_call 23; refine hC6.mono ?_; rintro e w5 ⟨rfl, hw⟩; obtain rfl := hw.symm; clear hw hC6)
                    go_meet
                    exact ⟨rfl, rfl⟩
              case rest =>
              obtain ⟨rfl, rfl⟩ := hcut
              clear c6 hC6 HG6
              apply_assumption
              go_wp2_with fail
              go_loopw [25] (fun iv W => ∃ j : Nat, j ≤ gs.length ∧ iv = .int .i64 j ∧ Hid (Below w6.heap.size w6 W)) (fun iv _ => gs.length - (intOf iv).toNat)
              case atStart => exact ⟨0, Nat.zero_le _, rfl, Below.refl _ _⟩
              case round =>
                obtain ⟨j, hj, rfl, HJ⟩ := hrel
                by_cases hjl : j < gs.length
                · have hjz : (j : Int) < (gs.length : Int) := by omega
                  have hSj := (HO6.out.below HJ.out).sort j (by simpa using hjl)
                  obtain ⟨bk', e, -, -, hbk', -, -, atj⟩ := (HR6.out.below HJ.out).at (k := j) (by rw [List.length_map]; exact hjl)
                  cases e
                  have cj := rI.at atj
                  simp only [show rI.n = 1 from rfl, show rI.zero = (0 : Int) from rfl, Nat.mul_one] at cj
                  rw [map_getD1 gs hjl] at cj
                  clear atj
                  by_cases hji : j = gi
                  · subst hji
                    clear cj
                    go_wp2_with (go_at_call 25; refine hSj.mono ?_; rintro e w5 ⟨rfl, hw⟩; obtain rfl := hw.symm; clear hw hSj)
                    go_roundw
                    case rel => exact ⟨j + 1, by omega, by go_num, HJ⟩
                    case measure => simp only [intOf]; omega
                  · rw [getD_set_ne gs gi j _ (fun e => hji e.symm)] at hSj
                    generalize (gs.getD j (0, false)).1 = vj at *
                    have hvv : (vj != vj) = false := by simp
                    have hjg : ¬ (j : Int) = (gi : Int) := by omega
                    clear hji
                    go_wp2_with (go_at_call 25; refine hSj.mono ?_; rintro e w5 ⟨rfl, hw⟩; obtain rfl := hw.symm; clear hw hSj)
                    go_roundw
                    case rel => exact ⟨j + 1, by omega, by go_num, HJ⟩
                    case measure => simp only [intOf]; omega
                · have hjz : ¬ (j : Int) < (gs.length : Int) := by omega
                  have HO7 : Hid (Zn w wr z n L6 (gs.set gi ((so : Int), false)) (fun _ => False)) := (HO6.out.below HJ.out).less (fun _ h => h.elim)
                  clear HJ HO6 HR6
                  go_wp2
                  go_roundw
                  case rel => exact ⟨k + 1, L6, _, by omega, by omega, by go_num, HO7⟩
                  case measure => simp only [intOf]; omega
    · have hx : (¬ (k : Int) < (len : Int)) ∨ ((k : Int) < (len : Int) ∧ ¬ (k : Int) < 60) := by omega
      have HF : Hid (Below w.heap.size w wr) := HI.out.frame
      clear hlt hk hk8 HL HI
      rcases hx with h1 | ⟨h1, h2⟩
      all_goals
        go_wp2
        go_ret
        exact ⟨rfl, HF.out⟩
end Go.Proofs.YtmmbfgkfidconaaDoor
