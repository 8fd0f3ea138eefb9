/- ZoneStays, walked. -/
import Derived.Test.YtmmbfgkfidconaaDoorYBack
import Derived.Test.YtmmbfgkfidconaaDoorJX
namespace Go.Proofs.YtmmbfgkfidconaaDoor
open Go.RowKit

theorem getD_set_ne (gs : List Gp) (i k : Nat) (x : Gp) (h : i ≠ k) : (gs.set i x).getD k (0, false) = gs.getD k (0, false) := by
  rw [List.getD_eq_getElem?_getD, List.getElem?_set_ne h, ← List.getD_eq_getElem?_getD]
/-- All groups are open. -/
def allOpen (gs : List Gp) : Prop := ∀ k, (gs.getD k (0, false)).2 = false
theorem allOpen.set {gs : List Gp} (h : allOpen gs) (i : Nat) (s : Int) : allOpen (gs.set i (s, false)) := by
  intro k
  by_cases hk : i = k
  · subst hk
    by_cases hl : i < gs.length
    · rw [getD_set gs hl]
    · rw [List.getD_eq_getElem?_getD, List.getElem?_eq_none (by simp; omega)]
      rfl
  · rw [getD_set_ne gs i k _ hk]
    exact h k
theorem allOpen.rep (n : Nat) : allOpen (List.replicate n ((1 : Int), false)) := by
  intro k
  rw [List.getD_eq_getElem?_getD, List.getElem?_replicate]
  split <;> rfl
/-- What a Take leaves of the groups. -/
def KeepW (W w : World) (z n : Nat) (gs : List Gp) (G : Nat → Prop) (e : Ending) (w' : World) : Prop :=
  ∃ v L' gs', e = .returned v ∧ Zn W w' z n L' gs' G ∧ Stay G w w' ∧ (∀ k, (gs.getD k (0, false)).2 = true → gs'.getD k (0, false) = gs.getD k (0, false)) ∧ (allOpen gs → allOpen gs')
theorem Zn.takeKeep {W w : World} {z n : Nat} {L : List Bk} {gs : List Gp} {G : Nat → Prop} (h : Zn W w z n L gs G) (hT : Tab W) (s o : Nat) (hs : s < 2) (ho : o < 4) :
    Calls Tryd.prog 14 #[.pointer (some ⟨z, 0, none⟩), .int .i64 s, .int .i64 o] w (KeepW W w z n gs G) := by
  obtain ⟨res, hr⟩ := zp_ex (gs := gs) h.ok (s : Int) o
  have hok := h.ok
  refine (h.take hT s (by omega) o (by omega) hr).mono ?_
  intro e w' ht
  unfold TakeW at ht
  cases res with
  | none => exact ⟨_, _, gs, ht.1, ht.2.1, ht.2.2, fun _ _ => rfl, id⟩
  | some r =>
    obtain ⟨e1, L', h1, h2, _⟩ := ht
    have hb := hr.block hok
    refine ⟨_, _, _, e1, h1, h2, fun k hk => getD_set_ne gs _ k _ fun e => ?_, fun ha => ha.set _ _⟩
    rw [e, hk] at hb
    exact absurd hb.2.2.2.2 (by simp)
theorem Stay.sto_zone {G F : Nat → Prop} {w w' : World} {z n : Nat} {L : List Bk} {gs : List Gp} (h : Stay G w w') (hs : Zo F w z n L gs) (hn : ∀ c, F c → G c) : Zo F w' z n L gs := hs.keeps h fun c hc e => e (hn c hc)
theorem Zo.closed {F : Nat → Prop} {w : World} {z n : Nat} {L : List Bk} {gs : List Gp} (h : Zo F w z n L gs) (k : Int) :
    Calls Tryd.prog 23 #[.pointer (some ⟨z, 0, none⟩), .int .i64 k] w fun e w' => e = .returned (.bool (gclB gs k)) ∧ w' = w := by
  obtain ⟨FZ, p, g, c, v, hz⟩ := h
  exact zclosed_any hz k
theorem Zo.sort0 {F : Nat → Prop} {w : World} {z n : Nat} {L : List Bk} {gs : List Gp} (h : Zo F w z n L gs) (hk : 0 < gs.length) :
    Calls Tryd.prog 25 #[.pointer (some ⟨z, 0, none⟩), .int .i64 0] w fun e w' => e = .returned (.tuple #[.int .i64 (gs.getD 0 (0, false)).1, .nilIface]) ∧ w' = w := by
  obtain ⟨FZ, p, g, c, v, hz⟩ := h
  exact zsort_yes hz 0 hk
set_option maxRecDepth 100000 in
set_option maxHeartbeats 16000000 in
theorem walk_zoneStays (a0 a1 : Int) (w : World) (hT : Tab w) (b0 : -9223372036854775808 ≤ a0 ∧ a0 ≤ 9223372036854775807) (b1 : -9223372036854775808 ≤ a1 ∧ a1 ≤ 9223372036854775807) :
    Calls Tryd.prog 6 #[.int .i64 a0, .int .i64 a1] w fun e w' => e = .returned (.bool true) ∧ Below w.heap.size w w' := by
  have hU := up8_any w hT
  have hP0 := fun w => pick8_any a0 70 w b0.1 b0.2 (by decide) (by decide)
  have hP1 := fun w => pick8_any a1 4 w b1.1 b1.2 (by decide) (by decide)
  have l0 := pickN_lt a0 70 (by decide)
  have l1 := pickN_lt a1 4 (by decide)
  obtain ⟨n, hn⟩ : ∃ n, n = 1 + pickN a0 70 := ⟨_, rfl⟩
  have hnz : (1 : Int) + (pickN a0 70 : Int) = (n : Int) := by omega
  have hn1 : 1 ≤ n := by omega
  have hn2 : n ≤ 70 := by omega
  generalize pickN a1 4 = o at *
  have HT : Hid (Tab w) := hT
  clear hT hn
  go_enter Tryd.func6, Tryd.ntmps6
  go_wp2_with fail
  refine hU.mono ?_
  rintro e w1 ⟨rfl, hb1⟩
  have hN := znNew (G := fun _ => False) HT.out hb1 (fun _ h => h.elim) n hn1 (by omega)
  clear hU
  go_wp2_with (go_at_call 12; refine (hP0 _).mono ?_; rintro e w2 ⟨rfl, hw⟩; obtain rfl := hw.symm; clear hw)
  refine hN.mono ?_
  rintro e w2 ⟨z, rfl, O2, -⟩
  have hK := O2.takeKeep HT.out 1 o (by omega) l1
  clear hN hb1 O2 hP0
  go_wp2_with (go_at_call 12; refine (hP1 _).mono ?_; rintro e w2 ⟨rfl, hw⟩; obtain rfl := hw.symm; clear hw)
  refine hK.mono ?_
  rintro e w3 ⟨v3, L, gs, rfl, O3, -, -, ho3⟩
  have HOP : Hid (allOpen gs) := ho3 (allOpen.rep _)
  have hlen := O3.ok.len
  have hF := O3.free
  clear hK ho3 hP1
  go_wp2_with fail
  refine hF.mono ?_
  rintro e w4 ⟨vl, rfl, R4, hb4⟩
  have O4 := O3.more hb4
  obtain ⟨G4, hG4⟩ : ∃ G : Nat → Prop, G = plus (fun _ => False) w3 w4 := ⟨_, rfl⟩
  rw [← hG4] at O4
  have hw3 := O3.frame.size
  have HLB : Hid (L = [] ∨ ∃ g c, vl = .slice (some ⟨g, 0, none⟩) L.length c ∧ Wr w4 g (c * 2) ∧ G4 g ∧ w.heap.size ≤ g ∧ L.length ≤ c) := by
    rcases R4.cases with ⟨rfl, e0⟩ | ⟨g, c, cur, rfl, h1, h2, h3, h4, h5, h6, _⟩
    · exact Or.inl e0
    · exact Or.inr ⟨g, c, rfl, ⟨cur, h3, h6⟩, by rw [hG4]; exact Or.inr ⟨h1, h2⟩, by omega, h4⟩
  obtain ⟨al, cl, rfl⟩ := R4.form
  have HO4 : Hid (Zn w w4 z n L gs G4) := O4
  have H0 : Hid (Zn w w4 z n L gs G4 ∧ ∀ g c, (Value.slice al L.length cl) = .slice (some ⟨g, 0, none⟩) L.length c → L ≠ [] → Wr w4 g (c * 2)) := ⟨O4, fun g c e hne => by
    rcases HLB.out with h | ⟨g', c', e', hw, _⟩
    · exact absurd h hne
    · rw [e] at e'
      cases e'
      exact hw⟩
  clear hF O3 O4 R4 hb4 hG4 hw3 HO4
  go_wp2_with fail
  go_loopw [10] (fun iv W => ∃ k : Nat, k ≤ L.length ∧ iv = .int .i64 k ∧ Hid (Zn w W z n L gs G4 ∧ ∀ g c, (Value.slice al L.length cl) = .slice (some ⟨g, 0, none⟩) L.length c → L ≠ [] → Wr W g (c * 2))) (fun iv _ => L.length - (intOf iv).toNat)
  case atStart => exact ⟨0, Nat.zero_le _, rfl, H0⟩
  case round =>
    clear H0
    obtain ⟨k, hk, rfl, HI⟩ := hrel
    by_cases hlt : k < L.length
    · have hltz : (k : Int) < (L.length : Int) := by omega
      have hne : L ≠ [] := fun e => by rw [e] at hlt; simp at hlt
      rcases HLB.out with h | ⟨g, c, e', -, hGg, hwg, hlc⟩
      · exact absurd h hne
      cases e'
      obtain ⟨I1, I2⟩ := HI.out
      have I3 := I2 g cl rfl hne
      obtain ⟨⟨x0, r0⟩, f0⟩ := I3.rules (k * 2) (by omega)
      obtain ⟨⟨x1, r1⟩, f1⟩ := I3.rules (k * 2 + 1) (by omega)
      have hgl := I3.lt
      have HN : Hid (Zn w ((wr.setCell ⟨g, k * 2, none⟩ (.int .i64 (-1))).setCell ⟨g, k * 2 + 1, none⟩ (.int .i64 0)) z n L gs G4 ∧ ∀ g' c', (Value.slice (some ⟨g, 0, none⟩) L.length cl) = .slice (some ⟨g', 0, none⟩) L.length c' → L ≠ [] → Wr ((wr.setCell ⟨g, k * 2, none⟩ (.int .i64 (-1))).setCell ⟨g, k * 2 + 1, none⟩ (.int .i64 0)) g' (c' * 2)) := by
        have kk : Keeps wr ((wr.setCell ⟨g, k * 2, none⟩ (.int .i64 (-1))).setCell ⟨g, k * 2 + 1, none⟩ (.int .i64 0)) (fun b => b = g) := (Keeps.set _ _ _ _).trans (Keeps.set _ _ _ _) fun _ _ h => h
        refine ⟨I1.other kk fun c _ e => by rw [e]; exact ⟨hGg, hwg⟩, fun g' c' e _ => ?_⟩
        cases e
        exact (I3.set _ _).set _ _
      clear I1 I2 I3 HI hne
      go_wp2
      go_roundw
      case rel => exact ⟨k + 1, by omega, by go_num, HN⟩
      case measure => simp only [intOf]; omega
    · obtain rfl : k = L.length := by omega
      have O5 := HI.out.1
      have hF := O5.free
      clear HI HLB
      go_wp2_with fail
      refine hF.mono ?_
      rintro e w6 ⟨vk, rfl, R6, hb6⟩
      obtain ⟨ak, ck, rfl⟩ := R6.form
      have HO6 : Hid (Zn w w6 z n L gs G4) := O5.below hb6
      have HR6 : Hid (Row rB wr.heap.size w6 (.slice ak L.length ck) L) := R6
      clear hF O5 R6 hb6
      go_wp2_with fail
      go_loopw [12] (fun iv W => ∃ j : Nat, j ≤ L.length ∧ iv = .int .i64 j ∧ W = w6) (fun iv _ => L.length - (intOf iv).toNat)
      case atStart => exact ⟨0, Nat.zero_le _, rfl, rfl⟩
      case round =>
        obtain ⟨j, hj, rfl, rfl⟩ := hrel
        by_cases hjl : j < L.length
        · have hjz : (j : Int) < (L.length : Int) := by omega
          obtain ⟨ga, rfl, -, -, hga, -, -, ata⟩ := HR6.out.at hjl
          obtain ⟨x0, x1⟩ := rB.at ata
          simp only [show rB.n = 2 from rfl, show rB.zero = (0, 0) from rfl] at x0 x1
          generalize L.getD j (0, 0) = bj at *
          have hbz : ¬ (bj.1 : Int) < 0 := by omega
          clear ata
          go_wp2
          go_roundw
          case rel => exact ⟨j + 1, by omega, by go_num, by first | rfl | trivial⟩
          case measure => simp only [intOf]; omega
        · obtain rfl : j = L.length := by omega
          have hC := HO6.out.clone
          clear HR6
          go_wp2_with fail
          refine hC.mono ?_
          rintro e w7 ⟨q, rfl, S7, hb7⟩
          have O7 := HO6.out.more hb7
          obtain ⟨G7, hG7⟩ : ∃ G : Nat → Prop, G = plus G4 wr w7 := ⟨_, rfl⟩
          rw [← hG7] at O7
          have HGq : Hid (∀ c, wr.heap.size ≤ c ∧ c < w7.heap.size → G7 c ∧ w.heap.size ≤ c) := fun c hc => ⟨by rw [hG7]; exact Or.inr hc, Nat.le_trans HO6.out.frame.size hc.1⟩
          have HS7 : Hid (Zn w w7 z n L gs G7 ∧ Zo (fun c => wr.heap.size ≤ c ∧ c < w7.heap.size) w7 q n L gs) := ⟨O7, S7⟩
          obtain ⟨Fq, hFq⟩ : ∃ F : Nat → Prop, F = fun c => wr.heap.size ≤ c ∧ c < w7.heap.size := ⟨_, rfl⟩
          rw [← hFq] at HS7
          have HGF : Hid (∀ c, Fq c → G7 c ∧ w.heap.size ≤ c) := fun c hc => HGq.out c (by rw [hFq] at hc; exact hc)
          have hgz := O7.groups
          obtain ⟨FZ, p, gg, cc, vv, hzb⟩ := S7
          have hgq := zgroups_any hzb
          obtain ⟨res, hres⟩ := zp_ex (gs := gs) O7.ok (0 : Int) 0
          have HZP : Hid (Zp gs L 0 0 res) := hres
          have hK := O7.take HT.out 0 (by omega) 0 (by omega) hres
          clear hC O7 hzb hb7 hG7 hFq HGq HO6 hres
          go_wp2_with (first | (go_at_call 24; refine hgq.mono ?_; rintro e w5 ⟨rfl, hw⟩; obtain rfl := hw.symm; clear hw hgq) | (go_at_call 24; refine hgz.mono ?_; rintro e w5 ⟨rfl, hw⟩; obtain rfl := hw.symm; clear hw))
          clear hgz
          unfold TakeW at hK
          cases res with
          | none =>
            simp only at hK
            as_aux_lemma =>
            go_wp2_with fail
            refine hK.mono ?_
            rintro e w8 ⟨rfl, O8, S8⟩
            have Sq8 := S8.sto_zone HS7.out.2 fun c hc => (HGF.out c hc).1
            have HO1 : Hid (allOpen gs) := HOP.out
            have hl1 : 0 < (gs).length := by have := O8.len; omega
            have hCl := O8.close 0 hl1 (HO1.out 0)
            have HS8 : Hid (Zo Fq w8 q n L gs) := Sq8
            clear hK O8 S8 Sq8 HS7
            go_wp2_with fail
            refine hCl.mono ?_
            rintro e w9 ⟨rfl, O9, S9⟩
            have Sq9 := S9.sto_zone HS8.out fun c hc => (HGF.out c hc).1
            have hCq := Sq9.closed 0
            have hcq : gclB gs 0 = false := by
              have h0 : 0 < gs.length := by have := Sq9.len; omega
              have := gclB_nat gs (k := 0) h0
              rw [HOP.out 0] at this
              exact this
            rw [hcq] at hCq
            have HH : Hid (Zn w w9 z n L (closeG gs 0) G7 ∧ Zo Fq w9 q n L gs) := ⟨O9, Sq9⟩
            have HC0 : Hid ((closeG gs 0).getD 0 (0, false) = (((gs).getD 0 (0, false)).1, true)) := getD_set _ hl1 _
            clear hCl O9 S9 Sq9 HS8 hcq
            go_wp2_with (go_at_call 23; refine hCq.mono ?_; rintro e w5 ⟨rfl, hw⟩; obtain rfl := hw.symm; clear hw)
            clear hCq
            obtain ⟨GC, hGC⟩ : ∃ GC, closeG gs 0 = GC := ⟨_, rfl⟩
            rw [hGC] at HH HC0
            clear hGC
            go_loopw [17] (fun iv W => ∃ (i : Nat) (Lx : List Bk) (gx : List Gp), i ≤ 8 ∧ iv = .int .i64 i ∧ Hid (Zn w W z n Lx gx G7 ∧ Zo Fq W q n L gs ∧ gx.getD 0 (0, false) = (((gs).getD 0 (0, false)).1, true))) (fun iv _ => 8 - (intOf iv).toNat)
            case atStart => exact ⟨0, _, _, by omega, rfl, HH.out.1, HH.out.2, HC0.out⟩
            case round =>
              clear HH HC0 GC
              obtain ⟨i, Lx, gx, hi, rfl, HI⟩ := hrel
              by_cases hi8 : i < 8
              · have hiz : (i : Int) < 8 := by omega
                have hT8 := HI.out.1.takeKeep HT.out 0 0 (by decide) (by decide)
                go_wp2_with fail
                refine hT8.mono ?_
                rintro e w10 ⟨v10, L10, g10, rfl, O10, S10, hkeep, -⟩
                have HN : Hid (Zn w w10 z n L10 g10 G7 ∧ Zo Fq w10 q n L gs ∧ g10.getD 0 (0, false) = (((gs).getD 0 (0, false)).1, true)) := ⟨O10, S10.sto_zone HI.out.2.1 (fun c hc => (HGF.out c hc).1), by rw [hkeep 0 (by rw [HI.out.2.2])]; exact HI.out.2.2⟩
                clear hT8 O10 S10 hkeep HI
                go_wp2
                go_roundw
                case rel => exact ⟨i + 1, L10, g10, by omega, by go_num, HN⟩
                case measure => simp only [intOf]; omega
              · obtain rfl : i = 8 := by omega
                obtain ⟨Ox, Sq, hx0⟩ := HI.out
                obtain ⟨Fz, k1, k2, Tz, frz, k4⟩ := Ox
                have Oq : Zn w wr q n L gs Fz := ⟨Fq, fun c hc => (HGF.out c hc).2, fun c hc e => k2 c e (HGF.out c hc).1, Sq, frz, Tz.lt⟩
                have hKq := Oq.take HT.out 0 (by omega) 0 (by omega) HZP.out
                unfold TakeW at hKq
                simp only at hKq
                have HTz : Hid (Zo Fz wr z n Lx gx ∧ gx.getD 0 (0, false) = (((gs).getD 0 (0, false)).1, true)) := ⟨Tz, hx0⟩
                clear HI Sq k1 k2 Tz frz k4 Oq hx0
                go_wp2_with fail
                refine hKq.mono ?_
                rintro e w11 ⟨rfl, O11, Y11⟩
                have Tz11 := Y11.sto_zone HTz.out.1 fun _ h => h
                have h0q : 0 < (gs).length := by have := O11.len; omega
                have hSq := O11.sort 0 h0q
                have hSz := Tz11.sort0 (by have := Tz11.len; omega)
                rw [HTz.out.2] at hSz
                have HFR : Hid (Below w.heap.size w w11) := O11.frame
                generalize ((gs).getD 0 (0, false)).1 = sx at *
                have hss : (sx == sx) = true := by simp
                clear hKq Y11 O11 Tz11
                go_wp2_with fail
                refine hSq.mono ?_
                rintro e w5 ⟨rfl, hw⟩
                obtain rfl := hw.symm
                clear hw hSq
                go_wp2_with fail
                refine hSz.mono ?_
                rintro e w5 ⟨rfl, hw⟩
                obtain rfl := hw.symm
                clear hw
                go_wp2_with fail
                clear hSz
                go_quiet (fail)
                go_wp2
                go_ret
                exact ⟨rfl, below_drewN HFR.out _⟩
          | some r =>
            simp only at hK
            as_aux_lemma =>
            obtain ⟨gs1, hg1⟩ : ∃ gs1, gs.set (r.1 / 8) ((0 : Int), false) = gs1 := ⟨_, rfl⟩
            have HG1 : Hid (gs.set (r.1 / 8) ((0 : Int), false) = gs1) := hg1
            have HOPEN : Hid (allOpen gs1) := by rw [← hg1]; exact HOP.out.set _ _
            rw [hg1] at hK
            clear hg1
            go_wp2_with fail
            refine hK.mono ?_
            rintro e w8 ⟨rfl, L1, O8, S8, -⟩
            have Sq8 := S8.sto_zone HS7.out.2 fun c hc => (HGF.out c hc).1
            have HO1 : Hid (allOpen gs1) := HOPEN.out
            have hl1 : 0 < gs1.length := by have := O8.len; omega
            have hCl := O8.close 0 hl1 (HO1.out 0)
            have HS8 : Hid (Zo Fq w8 q n L gs) := Sq8
            clear hK O8 S8 Sq8 HS7
            go_wp2_with fail
            refine hCl.mono ?_
            rintro e w9 ⟨rfl, O9, S9⟩
            have Sq9 := S9.sto_zone HS8.out fun c hc => (HGF.out c hc).1
            have hCq := Sq9.closed 0
            have hcq : gclB gs 0 = false := by
              have h0 : 0 < gs.length := by have := Sq9.len; omega
              have := gclB_nat gs (k := 0) h0
              rw [HOP.out 0] at this
              exact this
            rw [hcq] at hCq
            have HH : Hid (Zn w w9 z n L1 (closeG gs1 0) G7 ∧ Zo Fq w9 q n L gs) := ⟨O9, Sq9⟩
            have HC0 : Hid ((closeG gs1 0).getD 0 (0, false) = ((gs1.getD 0 (0, false)).1, true)) := getD_set _ hl1 _
            clear hCl O9 S9 Sq9 HS8 hcq
            go_wp2_with (go_at_call 23; refine hCq.mono ?_; rintro e w5 ⟨rfl, hw⟩; obtain rfl := hw.symm; clear hw)
            clear hCq
            obtain ⟨GC, hGC⟩ : ∃ GC, closeG gs1 0 = GC := ⟨_, rfl⟩
            rw [hGC] at HH HC0
            clear hGC
            go_loopw [17] (fun iv W => ∃ (i : Nat) (Lx : List Bk) (gx : List Gp), i ≤ 8 ∧ iv = .int .i64 i ∧ Hid (Zn w W z n Lx gx G7 ∧ Zo Fq W q n L gs ∧ gx.getD 0 (0, false) = ((gs1.getD 0 (0, false)).1, true))) (fun iv _ => 8 - (intOf iv).toNat)
            case atStart => exact ⟨0, _, _, by omega, rfl, HH.out.1, HH.out.2, HC0.out⟩
            case round =>
              clear HH HC0 GC
              obtain ⟨i, Lx, gx, hi, rfl, HI⟩ := hrel
              by_cases hi8 : i < 8
              · have hiz : (i : Int) < 8 := by omega
                have hT8 := HI.out.1.takeKeep HT.out 0 0 (by decide) (by decide)
                go_wp2_with fail
                refine hT8.mono ?_
                rintro e w10 ⟨v10, L10, g10, rfl, O10, S10, hkeep, -⟩
                have HN : Hid (Zn w w10 z n L10 g10 G7 ∧ Zo Fq w10 q n L gs ∧ g10.getD 0 (0, false) = ((gs1.getD 0 (0, false)).1, true)) := ⟨O10, S10.sto_zone HI.out.2.1 (fun c hc => (HGF.out c hc).1), by rw [hkeep 0 (by rw [HI.out.2.2])]; exact HI.out.2.2⟩
                clear hT8 O10 S10 hkeep HI
                go_wp2
                go_roundw
                case rel => exact ⟨i + 1, L10, g10, by omega, by go_num, HN⟩
                case measure => simp only [intOf]; omega
              · obtain rfl : i = 8 := by omega
                obtain ⟨Ox, Sq, hx0⟩ := HI.out
                obtain ⟨Fz, k1, k2, Tz, frz, k4⟩ := Ox
                have Oq : Zn w wr q n L gs Fz := ⟨Fq, fun c hc => (HGF.out c hc).2, fun c hc e => k2 c e (HGF.out c hc).1, Sq, frz, Tz.lt⟩
                have hKq := Oq.take HT.out 0 (by omega) 0 (by omega) HZP.out
                unfold TakeW at hKq
                simp only at hKq
                rw [HG1.out] at hKq
                have HTz : Hid (Zo Fz wr z n Lx gx ∧ gx.getD 0 (0, false) = ((gs1.getD 0 (0, false)).1, true)) := ⟨Tz, hx0⟩
                clear HI Sq k1 k2 Tz frz k4 Oq hx0
                go_wp2_with fail
                refine hKq.mono ?_
                rintro e w11 ⟨rfl, L11, O11, Y11, -⟩
                have Tz11 := Y11.sto_zone HTz.out.1 fun _ h => h
                have h0q : 0 < gs1.length := by have := O11.len; omega
                have hSq := O11.sort 0 h0q
                have hSz := Tz11.sort0 (by have := Tz11.len; omega)
                rw [HTz.out.2] at hSz
                have HFR : Hid (Below w.heap.size w w11) := O11.frame
                generalize (gs1.getD 0 (0, false)).1 = sx at *
                have hss : (sx == sx) = true := by simp
                clear hKq Y11 O11 Tz11
                go_wp2_with fail
                refine hSq.mono ?_
                rintro e w5 ⟨rfl, hw⟩
                obtain rfl := hw.symm
                clear hw hSq
                go_wp2_with fail
                refine hSz.mono ?_
                rintro e w5 ⟨rfl, hw⟩
                obtain rfl := hw.symm
                clear hw
                go_wp2_with fail
                clear hSz
                go_quiet (fail)
                go_wp2
                go_ret
                exact ⟨rfl, below_drewN HFR.out _⟩
end Go.Proofs.YtmmbfgkfidconaaDoor
