/- BuddyTakes, walked. -/
import Derived.Test.YtbpihdeinkopfaaDoorUClones
import Derived.Test.YtbpihdeinkopfaaDoorUDeed
import Derived.Test.YtbpihdeinkopfaaDoorWPow
namespace Go.Proofs.YtbpihdeinkopfaaDoor
open Go.RowKit

theorem lst_in {o : Nat} {n : Nat} {L : List Bk} (ho : Okl n L) {m : Nat} (h : lst o L L.length = some m) : alB ((L.getD m (0, 0)).1, o) ∨ 5 < o := by
  have hs := lst_spec o L L.length
  rw [h] at hs
  obtain ⟨h1, h2, _⟩ := hs
  have hal := ho.good.al _ (ho.get h1)
  rcases Nat.lt_or_ge 5 o with h5 | h5
  · exact Or.inr h5
  · exact Or.inl ⟨h5, Nat.dvd_trans (Nat.pow_dvd_pow 2 h2) hal.2⟩
theorem lst_bend {o : Nat} {n : Nat} {L : List Bk} (ho : Okl n L) {m : Nat} (h : lst o L L.length = some m) : bend ((L.getD m (0, 0)).1, o) ≤ n ∧ ∀ x, inB ((L.getD m (0, 0)).1, o) x → cov L x := by
  have hs := lst_spec o L L.length
  rw [h] at hs
  obtain ⟨h1, h2, _⟩ := hs
  have hp := Nat.pow_le_pow_right (show 0 < 2 by decide) h2
  have ht := ho.top _ (ho.get h1)
  have e1 : bend ((L.getD m (0, 0)).1, o) = (L.getD m (0, 0)).1 + 2 ^ o := rfl
  have e2 : bend (L.getD m (0, 0)) = (L.getD m (0, 0)).1 + 2 ^ (L.getD m (0, 0)).2 := rfl
  refine ⟨by omega, fun x hx => ⟨_, ho.get h1, hx.1, ?_⟩⟩
  have := hx.2
  omega
theorem cov_back {L L1 L2 : List Bk} {b : Bk} (h1 : ∀ x, cov L1 x ↔ cov L x ∧ ¬ inB b x) (h2 : ∀ x, cov L2 x ↔ cov L1 x ∨ inB b x) (h : ∀ x, inB b x → cov L x) (x : Nat) : cov L2 x ↔ cov L x := by
  rw [h2, h1]
  constructor
  · rintro (h' | h')
    · exact h'.1
    · exact h x h'
  · intro hc
    by_cases hb : inB b x
    · exact Or.inr hb
    · exact Or.inl ⟨hc, hb⟩
theorem allB_gone {L L1 : List Bk} {b : Bk} (h1 : ∀ x, cov L1 x ↔ cov L x ∧ ¬ inB b x) : allB L1 b false := fun x hx => (covB_false _ _).2 fun hc => ((h1 x).1 hc).2 hx

set_option maxRecDepth 100000 in
set_option maxHeartbeats 16000000 in
theorem walk_buddyTakes (a0 : Int) (ao : Option Addr) (len cap : Nat) (D : Nat → UDd) (a1 a2 : Int) (w : World) (hT : Tab w) (b0 : -9223372036854775808 ≤ a0 ∧ a0 ≤ 9223372036854775807) (hm : len ≤ maxLen) (hL : Lst UDd.cells UDd.ok 3 w ao len D) (b1 : -9223372036854775808 ≤ a1 ∧ a1 ≤ 9223372036854775807) (b2 : -9223372036854775808 ≤ a2 ∧ a2 ≤ 9223372036854775807) :
    Calls Tryd.prog 7 #[.int .i64 a0, .slice ao len cap, .int .i64 a1, .int .i64 a2] w fun e w' => e = .returned (.bool true) ∧ Below w.heap.size w w' := by
  have hU := up_any w hT
  have hP0 := fun w => pick_any a0 200 w b0.1 b0.2 (by decide) (by decide)
  have hP1 := fun w => pick_any a1 6 w b1.1 b1.2 (by decide) (by decide)
  have l0 := pickN_lt a0 200 (by decide)
  have l1 := pickN_lt a1 6 (by decide)
  obtain ⟨n, hn⟩ : ∃ n, n = 1 + pickN a0 200 := ⟨_, rfl⟩
  have hnz : (1 : Int) + (pickN a0 200 : Int) = (n : Int) := by omega
  have hn1 : 1 ≤ n := by omega
  have hn2 : n ≤ 200 := by omega
  have hmz : len ≤ 9223372036854775807 := by unfold maxLen at hm; omega
  generalize pickN a1 6 = o at *
  have HT : Hid (Tab w) := hT
  have HL : Hid (Lst UDd.cells UDd.ok 3 w ao len D) := hL
  clear hT hn hL hm
  go_enter Tryd.func7, Tryd.ntmps7
  go_wp2_with fail
  refine hU.mono ?_
  rintro e w1 ⟨rfl, hb1⟩
  have hN := owNew (G := fun _ => False) HT.out hb1 (fun _ h => h.elim) n hn1 (by omega)
  clear hU
  go_wp2_with (go_at_call 12; refine (hP0 _).mono ?_; rintro e w2 ⟨rfl, hw⟩; obtain rfl := hw.symm; clear hw)
  refine hN.mono ?_
  rintro e w2 ⟨p, rfl, O2, -⟩
  have HO2 : Hid (Ow w w2 p n (blkL 0 n) (fun _ => False)) := O2
  clear hN hb1 O2
  go_wp2_with fail
  go_loopw [12] (fun iv W => ∃ (k : Nat) (L : List Bk), k ≤ len ∧ k ≤ 40 ∧ iv = .int .i64 k ∧ Hid (Ow w W p n L (fun _ => False))) (fun iv _ => len - (intOf iv).toNat)
  case atStart => exact ⟨0, _, Nat.zero_le _, by omega, rfl, HO2⟩
  case round =>
    obtain ⟨k, L, hk, hk4, rfl, HI⟩ := hrel
    clear HO2
    by_cases hlt : k < len ∧ k < 40
    · have hz1 : (k : Int) < (len : Int) := by omega
      have hz2 : (k : Int) < 40 := by omega
      obtain ⟨bb, off, rfl, hbw, hal⟩ := (HL.out.below HI.out.frame).at hlt.1
      obtain ⟨hok, hcl⟩ := hal k hlt.1
      have c2 := hcl 2 (by decide)
      simp [UDd.cells] at c2
      obtain ⟨-, -, q1, q2⟩ := hok
      have hP2 := fun w => pick_any (D k).order 6 w q1 q2 (by decide) (by decide)
      have l2 := pickN_lt (D k).order 6 (by decide)
      generalize (D k).order = od at *
      generalize pickN od 6 = o2 at *
      have hK := HI.out.take HT.out o2 (by omega)
      have HN : Hid (∀ e w', TakeO w wr p n L (fun _ => False) o2 e w' → ∃ v L', e = .returned v ∧ Ow w w' p n L' (fun _ => False)) := by
        intro e w' h
        unfold TakeO at h
        cases hl : lst o2 L L.length with
        | none => rw [hl] at h; exact ⟨_, _, h.1, h.2.1⟩
        | some m => rw [hl] at h; obtain ⟨h1, L', h2, _⟩ := h; exact ⟨_, _, h1, h2⟩
      have hK2 := hK.mono HN.out
      clear hK HN hal hcl HI
      go_wp2_with (go_at_call 12; refine (hP2 _).mono ?_; rintro e w5 ⟨rfl, hw⟩; obtain rfl := hw.symm; clear hw)
      refine hK2.mono ?_
      rintro e w3 ⟨v3, L3, rfl, O3⟩
      have HO3 : Hid (Ow w w3 p n L3 (fun _ => False)) := O3
      clear hK2 O3
      go_wp2
      go_roundw
      case rel => exact ⟨k + 1, L3, by omega, by omega, by go_num, HO3⟩
      case measure => simp only [intOf]; omega
    · have hx : (¬ (k : Int) < (len : Int)) ∨ ((k : Int) < (len : Int) ∧ ¬ (k : Int) < 40) := by omega
      clear hlt hk hk4 HL
      have hPw := fun w => power_any o w (by omega)
      have hF := HI.out.free
      have hlen := HI.out.ok.len
      rcases hx with h1 | ⟨h1, h2⟩
      all_goals
        go_wp2_with (first | (go_at_call 12; refine (hP1 _).mono ?_; rintro e w5 ⟨rfl, hw⟩; obtain rfl := hw.symm; clear hw) | (go_at_call 22; refine (hPw _).mono ?_; rintro e w5 ⟨rfl, hw⟩; obtain rfl := hw.symm; clear hw))
        refine hF.mono ?_
        rintro e w4 ⟨vw, rfl, R4, hb4⟩
        have O4 := HI.out.more hb4
        obtain ⟨aw, cw, rfl⟩ := R4.form
        have hC := O4.clone
        clear hF
        go_wp2_with fail
        refine hC.mono ?_
        rintro e w5 ⟨q, rfl, ⟨u, S5⟩, hb5⟩
        have O5 := O4.more hb5
        have R5 := R4.below hb5
        obtain ⟨G, hG⟩ : ∃ G : Nat → Prop, G = plus (plus (fun _ => False) wr w4) w4 w5 := ⟨_, rfl⟩
        rw [← hG] at O5
        have HR5 : Hid (Row rB wr.heap.size w5 (.slice aw L.length cw) L ∧ ∀ g, (Value.slice aw L.length cw).ownBlock = some g → G g) := ⟨R5, fun g hg => by rw [hG]; exact Or.inl (Or.inr (R4.lt g hg))⟩
        have HS5 : Hid (Sto (fun c => w4.heap.size ≤ c ∧ c < w5.heap.size) w5 q n u L ∧ ∀ c, w4.heap.size ≤ c ∧ c < w5.heap.size → G c) := ⟨S5, fun c hc => by rw [hG]; exact Or.inr hc⟩
        have HOK : Hid (Okl n L) := O4.ok
        have hK := O5.take HT.out o (by omega)
        have HO5 : Hid (Ow w w5 p n L G) := O5
        clear hC O4 O5 R4 R5 S5 hb4 hb5 hG HI
        unfold TakeO at hK
        cases hl : lst o L L.length with
        | none =>
          rw [hl] at hK
          simp only at hK
          clear hl
          go_wp2_with fail
          refine hK.mono ?_
          rintro e w6 ⟨rfl, O6, Y6⟩
          have R6 := Y6.row HR5.out.1 HR5.out.2
          have HR6 : Hid (Row rB wr.heap.size w6 (.slice aw L.length cw) L ∧ ∀ g, (Value.slice aw L.length cw).ownBlock = some g → G g) := ⟨R6, HR5.out.2⟩
          have HO6 : Hid (Ow w w6 p n L G) := O6
          clear hK Y6 O6 R6 HR5 HS5 HO5
          by_cases hh : hasB n a2 o = true
          · obtain ⟨f2, o', e1, e2, hab, hbe⟩ := hasB_nat hh
            obtain rfl : o = o' := by omega
            subst e1
            have hA := HO6.out.takeAt HT.out (f2, o) hab hbe
            have HAB : Hid (alB (f2, o) ∧ bend (f2, o) ≤ n) := ⟨hab, hbe⟩
            clear hab hbe hh
            by_cases hall : allB L (f2, o) true
            · have HALL : Hid (allB L (f2, o) true) := hall
              clear hall
              go_wp2_with fail
              refine hA.mono ?_
              rintro e w7 ⟨h7, -⟩
              obtain ⟨rfl, L7, O7, Y7, cv7⟩ := h7 HALL.out
              have hGv := O7.give (f2, o) HAB.out.1 HAB.out.2
              have HCV : Hid (∀ x, cov L7 x ↔ cov L x ∧ ¬ inB (f2, o) x) := cv7
              have R7 := Y7.row HR6.out.1 HR6.out.2
              have HR7 : Hid (Row rB wr.heap.size w7 (.slice aw L.length cw) L ∧ ∀ g, (Value.slice aw L.length cw).ownBlock = some g → G g) := ⟨R7, HR6.out.2⟩
              clear hA cv7 O7 Y7 R7 HR6 HO6
              go_wp2_with fail
              refine hGv.mono ?_
              rintro e w9 ⟨h9, -⟩
              obtain ⟨rfl, L9, O9, Y9, cv9⟩ := h9 (allB_gone HCV.out)
              have hL9 : L9 = L := size_same O9.ok HOK.out (cov_back HCV.out cv9 fun x hx => (covB_iff _ _).1 (HALL.out x hx))
              rw [hL9] at O9
              clear hL9
              have R9 := Y9.row HR7.out.1 HR7.out.2
              have hX9 : True := trivial
              clear hGv cv9 Y9 HR7 HCV h9
              have hF7 := O9.free
              clear hX9
              go_wp2_with fail
              refine hF7.mono ?_
              rintro e w8 ⟨vn, rfl, R8, hb8⟩
              have Q8 := R9.below hb8
              obtain ⟨an, cn, rfl⟩ := R8.form
              have HFR : Hid (Below w.heap.size w w8) := below_call' O9.frame hb8
              have HR8 : Hid (Row rB w9.heap.size w8 (.slice an L.length cn) L ∧ Row rB wr.heap.size w8 (.slice aw L.length cw) L) := ⟨R8, Q8⟩
              clear hF7 R8 Q8 hb8 O9 R9
              go_wp2_with fail
              go_loopw [23] (fun iv W => ∃ j : Nat, j ≤ L.length ∧ iv = .int .i64 j ∧ Hid (Below w8.heap.size w8 W)) (fun iv _ => L.length - (intOf iv).toNat)
              case atStart => exact ⟨0, Nat.zero_le _, rfl, Below.refl _ _⟩
              case round =>
                obtain ⟨j, hj, rfl, HJ⟩ := hrel
                by_cases hjl : j < L.length
                · have hjz : (j : Int) < (L.length : Int) := by omega
                  obtain ⟨ga, rfl, _, _, hga, _, _, ata⟩ := (HR8.out.1.below HJ.out).at hjl
                  obtain ⟨gb, rfl, _, _, hgb, _, _, atb⟩ := (HR8.out.2.below HJ.out).at hjl
                  obtain ⟨x0, x1⟩ := rB.at ata
                  obtain ⟨y0, y1⟩ := rB.at atb
                  simp only [show rB.n = 2 from rfl, show rB.zero = (0, 0) from rfl] at x0 x1 y0 y1
                  have hne := fun w => neq_run (L.getD j (0, 0)) (L.getD j (0, 0)) w
                  rw [show (!decide (L.getD j (0, 0) = L.getD j (0, 0))) = false by simp] at hne
                  unfold bval at hne
                  generalize L.getD j (0, 0) = bj at *
                  clear ata atb
                  go_wp2
                  go_quiet (fail)
                  go_wp2
                  go_roundw
                  case rel => exact ⟨j + 1, by omega, by go_num, below_drewN HJ.out _⟩
                  case measure => simp only [intOf]; omega
                · obtain rfl : j = L.length := by omega
                  go_wp2
                  go_ret
                  exact ⟨rfl, below_call' HFR.out HJ.out⟩

            · have HALL : Hid (¬ allB L (f2, o) true) := hall
              clear hall
              go_wp2_with fail
              refine hA.mono ?_
              rintro e w9 ⟨-, h9⟩
              obtain ⟨rfl, O9, Y9⟩ := h9 HALL.out
              have R9 := Y9.row HR6.out.1 HR6.out.2
              have hX9 : True := trivial
              clear hA Y9 HR6 h9
              have hF7 := O9.free
              clear hX9
              go_wp2_with fail
              refine hF7.mono ?_
              rintro e w8 ⟨vn, rfl, R8, hb8⟩
              have Q8 := R9.below hb8
              obtain ⟨an, cn, rfl⟩ := R8.form
              have HFR : Hid (Below w.heap.size w w8) := below_call' O9.frame hb8
              have HR8 : Hid (Row rB w9.heap.size w8 (.slice an L.length cn) L ∧ Row rB wr.heap.size w8 (.slice aw L.length cw) L) := ⟨R8, Q8⟩
              clear hF7 R8 Q8 hb8 O9 R9
              go_wp2_with fail
              go_loopw [23] (fun iv W => ∃ j : Nat, j ≤ L.length ∧ iv = .int .i64 j ∧ Hid (Below w8.heap.size w8 W)) (fun iv _ => L.length - (intOf iv).toNat)
              case atStart => exact ⟨0, Nat.zero_le _, rfl, Below.refl _ _⟩
              case round =>
                obtain ⟨j, hj, rfl, HJ⟩ := hrel
                by_cases hjl : j < L.length
                · have hjz : (j : Int) < (L.length : Int) := by omega
                  obtain ⟨ga, rfl, _, _, hga, _, _, ata⟩ := (HR8.out.1.below HJ.out).at hjl
                  obtain ⟨gb, rfl, _, _, hgb, _, _, atb⟩ := (HR8.out.2.below HJ.out).at hjl
                  obtain ⟨x0, x1⟩ := rB.at ata
                  obtain ⟨y0, y1⟩ := rB.at atb
                  simp only [show rB.n = 2 from rfl, show rB.zero = (0, 0) from rfl] at x0 x1 y0 y1
                  have hne := fun w => neq_run (L.getD j (0, 0)) (L.getD j (0, 0)) w
                  rw [show (!decide (L.getD j (0, 0) = L.getD j (0, 0))) = false by simp] at hne
                  unfold bval at hne
                  generalize L.getD j (0, 0) = bj at *
                  clear ata atb
                  go_wp2
                  go_quiet (fail)
                  go_wp2
                  go_roundw
                  case rel => exact ⟨j + 1, by omega, by go_num, below_drewN HJ.out _⟩
                  case measure => simp only [intOf]; omega
                · obtain rfl : j = L.length := by omega
                  go_wp2
                  go_ret
                  exact ⟨rfl, below_call' HFR.out HJ.out⟩

          · have hA := HO6.out.takeAtNo a2 o b2 (by simpa using hh)
            clear hh
            go_wp2_with fail
            refine hA.mono ?_
            rintro e w9 ⟨rfl, O9, Y9⟩
            have R9 := Y9.row HR6.out.1 HR6.out.2
            have hX9 : True := trivial
            clear hA Y9 HR6
            have hF7 := O9.free
            clear hX9
            go_wp2_with fail
            refine hF7.mono ?_
            rintro e w8 ⟨vn, rfl, R8, hb8⟩
            have Q8 := R9.below hb8
            obtain ⟨an, cn, rfl⟩ := R8.form
            have HFR : Hid (Below w.heap.size w w8) := below_call' O9.frame hb8
            have HR8 : Hid (Row rB w9.heap.size w8 (.slice an L.length cn) L ∧ Row rB wr.heap.size w8 (.slice aw L.length cw) L) := ⟨R8, Q8⟩
            clear hF7 R8 Q8 hb8 O9 R9
            go_wp2_with fail
            go_loopw [23] (fun iv W => ∃ j : Nat, j ≤ L.length ∧ iv = .int .i64 j ∧ Hid (Below w8.heap.size w8 W)) (fun iv _ => L.length - (intOf iv).toNat)
            case atStart => exact ⟨0, Nat.zero_le _, rfl, Below.refl _ _⟩
            case round =>
              obtain ⟨j, hj, rfl, HJ⟩ := hrel
              by_cases hjl : j < L.length
              · have hjz : (j : Int) < (L.length : Int) := by omega
                obtain ⟨ga, rfl, _, _, hga, _, _, ata⟩ := (HR8.out.1.below HJ.out).at hjl
                obtain ⟨gb, rfl, _, _, hgb, _, _, atb⟩ := (HR8.out.2.below HJ.out).at hjl
                obtain ⟨x0, x1⟩ := rB.at ata
                obtain ⟨y0, y1⟩ := rB.at atb
                simp only [show rB.n = 2 from rfl, show rB.zero = (0, 0) from rfl] at x0 x1 y0 y1
                have hne := fun w => neq_run (L.getD j (0, 0)) (L.getD j (0, 0)) w
                rw [show (!decide (L.getD j (0, 0) = L.getD j (0, 0))) = false by simp] at hne
                unfold bval at hne
                generalize L.getD j (0, 0) = bj at *
                clear ata atb
                go_wp2
                go_quiet (fail)
                go_wp2
                go_roundw
                case rel => exact ⟨j + 1, by omega, by go_num, below_drewN HJ.out _⟩
                case measure => simp only [intOf]; omega
              · obtain rfl : j = L.length := by omega
                go_wp2
                go_ret
                exact ⟨rfl, below_call' HFR.out HJ.out⟩
        | some m =>
          rw [hl] at hK
          simp only at hK
          have hal := (lst_in HOK.out hl).resolve_right (by omega)
          obtain ⟨hbe, hcvL⟩ := lst_bend HOK.out hl
          obtain ⟨fst, hfst⟩ : ∃ fst, (L.getD m (0, 0)).1 = fst := ⟨_, rfl⟩
          rw [hfst] at hK hal hbe hcvL
          have HAL : Hid (alB (fst, o) ∧ bend (fst, o) ≤ n ∧ ∀ x, inB (fst, o) x → cov L x) := ⟨hal, hbe, hcvL⟩
          have hfn : fst + 2 ^ o ≤ 200 := by have : fst + 2 ^ o ≤ n := hbe; omega
          have hmod : (fst : Int) % pw o = 0 := (pw_mod fst o).2 (Nat.mod_eq_zero_of_dvd hal.2)
          have hpp := pw_pos o
          have hps : (fst : Int) + pw o ≤ 200 := by unfold pw; omega
          clear hl hfst hal hbe hcvL hfn
          go_wp2_with fail
          refine hK.mono ?_
          rintro e w6 ⟨rfl, L6, O6, Y6, cv6⟩
          have HCV6 : Hid (∀ x, cov L6 x ↔ cov L x ∧ ¬ inB (fst, o) x) := cv6
          have R6 := Y6.row HR5.out.1 HR5.out.2
          have S6 := Y6.sto HS5.out.1 HS5.out.2
          have HR6 : Hid (Row rB wr.heap.size w6 (.slice aw L.length cw) L ∧ ∀ g, (Value.slice aw L.length cw).ownBlock = some g → G g) := ⟨R6, HR5.out.2⟩
          have HO6 : Hid (Ow w w6 p n L6 G) := O6
          have HS6 : Hid (Sto (fun c => w4.heap.size ≤ c ∧ c < w5.heap.size) w6 q n u L) := S6
          clear hK Y6 O6 R6 S6 HR5 HS5 HO5 cv6
          have hnf : ¬ ((fst : Int) < 0) := by omega
          go_wp2_with fail
          have HPN : Hid (pw o = ((2 ^ o : Nat) : Int)) := rfl
          go_loopw [18] (fun iv W => ∃ j : Nat, j ≤ 2 ^ o ∧ iv = .int .i64 j ∧ Hid (Below w6.heap.size w6 W)) (fun iv _ => 2 ^ o - (intOf iv).toNat)
          case atStart => exact ⟨0, Nat.zero_le _, rfl, Below.refl _ _⟩
          case round =>
            obtain ⟨j, hj, rfl, HJ⟩ := hrel
            by_cases hjl : j < 2 ^ o
            · have hjz : (j : Int) < pw o := by have := HPN.out; omega
              have hin : inB (fst, o) (fst + j) := ⟨Nat.le_add_right _ _, by show fst + j < fst + 2 ^ o; omega⟩
              have fr1 : freeB L ((fst : Int) + j) = true := by
                unfold freeB
                rw [show ((fst : Int) + j).toNat = fst + j by omega, (covB_iff _ _).2 (HAL.out.2.2 _ hin)]
                simp
                omega
              have fr2 : freeB L6 ((fst : Int) + j) = false := by
                unfold freeB
                rw [show ((fst : Int) + j).toNat = fst + j by omega, (covB_false _ _).2 fun hc => ((HCV6.out _).1 hc).2 hin]
                simp
              have hc1 := isFree_any (HS6.out.below HJ.out) HOK.out ((fst : Int) + j)
              rw [fr1] at hc1
              have hc2 := fun w' (h : Below wr.heap.size wr w') => ((HO6.out.below HJ.out).below h).isFree ((fst : Int) + j)
              rw [fr2] at hc2
              have hb : (fst : Int) + j ≤ 200 := by omega
              clear hin fr1 fr2
              go_wp2_with fail
              refine hc1.mono ?_
              rintro e w7 ⟨rfl, hb7⟩
              have hc3 := hc2 w7 hb7
              clear hc1 hc2
              go_wp2_with fail
              refine hc3.mono ?_
              rintro e w8 ⟨rfl, hb8⟩
              have HJ2 : Hid (Below w6.heap.size w6 w8) := below_call' (below_call' HJ.out hb7) hb8
              clear hc3 hb7 hb8
              go_wp2
              go_roundw
              case rel => exact ⟨j + 1, by omega, by go_num, HJ2⟩
              case measure => simp only [intOf]; omega
            · have hjz : ¬ (j : Int) < pw o := by have := HPN.out; omega
              have hGv := (HO6.out.below HJ.out).give (fst, o) HAL.out.1 HAL.out.2.1
              have R7 := HR6.out.1.below HJ.out
              have HR7 : Hid (Row rB _ wr (.slice aw L.length cw) L ∧ ∀ g, (Value.slice aw L.length cw).ownBlock = some g → G g) := ⟨R7, HR6.out.2⟩
              clear HR6 R7 HO6 HS6
              go_wp2_with fail
              refine hGv.mono ?_
              rintro e w7 ⟨h7, -⟩
              obtain ⟨rfl, L7, O7, Y7, cv7⟩ := h7 (allB_gone HCV6.out)
              have hL7 : L7 = L := size_same O7.ok HOK.out (cov_back HCV6.out cv7 HAL.out.2.2)
              rw [hL7] at O7
              have R7 := Y7.row HR7.out.1 HR7.out.2
              have HR6 : Hid (Row rB _ w7 (.slice aw L.length cw) L ∧ ∀ g, (Value.slice aw L.length cw).ownBlock = some g → G g) := ⟨R7, HR7.out.2⟩
              have HO6 : Hid (Ow w w7 p n L G) := O7
              clear hGv h7 O7 Y7 cv7 hL7 R7 HR7 HCV6
              by_cases hh : hasB n a2 o = true
              · obtain ⟨f2, o', e1, e2, hab, hbe⟩ := hasB_nat hh
                obtain rfl : o = o' := by omega
                subst e1
                have hA := HO6.out.takeAt HT.out (f2, o) hab hbe
                have HAB : Hid (alB (f2, o) ∧ bend (f2, o) ≤ n) := ⟨hab, hbe⟩
                clear hab hbe hh
                by_cases hall : allB L (f2, o) true
                · have HALL : Hid (allB L (f2, o) true) := hall
                  clear hall
                  go_wp2_with fail
                  refine hA.mono ?_
                  rintro e w7 ⟨h7, -⟩
                  obtain ⟨rfl, L7, O7, Y7, cv7⟩ := h7 HALL.out
                  have hGv := O7.give (f2, o) HAB.out.1 HAB.out.2
                  have HCV : Hid (∀ x, cov L7 x ↔ cov L x ∧ ¬ inB (f2, o) x) := cv7
                  have R7 := Y7.row HR6.out.1 HR6.out.2
                  have HR7 : Hid (Row rB _ w7 (.slice aw L.length cw) L ∧ ∀ g, (Value.slice aw L.length cw).ownBlock = some g → G g) := ⟨R7, HR6.out.2⟩
                  clear hA cv7 O7 Y7 R7 HR6 HO6
                  go_wp2_with fail
                  refine hGv.mono ?_
                  rintro e w9 ⟨h9, -⟩
                  obtain ⟨rfl, L9, O9, Y9, cv9⟩ := h9 (allB_gone HCV.out)
                  have hL9 : L9 = L := size_same O9.ok HOK.out (cov_back HCV.out cv9 fun x hx => (covB_iff _ _).1 (HALL.out x hx))
                  rw [hL9] at O9
                  clear hL9
                  have R9 := Y9.row HR7.out.1 HR7.out.2
                  have hX9 : True := trivial
                  clear hGv cv9 Y9 HR7 HCV h9
                  have hF7 := O9.free
                  clear hX9
                  go_wp2_with fail
                  refine hF7.mono ?_
                  rintro e w8 ⟨vn, rfl, R8, hb8⟩
                  have Q8 := R9.below hb8
                  obtain ⟨an, cn, rfl⟩ := R8.form
                  have HFR : Hid (Below w.heap.size w w8) := below_call' O9.frame hb8
                  have HR8 : Hid (Row rB w9.heap.size w8 (.slice an L.length cn) L ∧ Row rB _ w8 (.slice aw L.length cw) L) := ⟨R8, Q8⟩
                  clear hF7 R8 Q8 hb8 O9 R9
                  go_wp2_with fail
                  go_loopw [23] (fun iv W => ∃ j : Nat, j ≤ L.length ∧ iv = .int .i64 j ∧ Hid (Below w8.heap.size w8 W)) (fun iv _ => L.length - (intOf iv).toNat)
                  case atStart => exact ⟨0, Nat.zero_le _, rfl, Below.refl _ _⟩
                  case round =>
                    obtain ⟨j, hj, rfl, HJ⟩ := hrel
                    by_cases hjl : j < L.length
                    · have hjz : (j : Int) < (L.length : Int) := by omega
                      obtain ⟨ga, rfl, _, _, hga, _, _, ata⟩ := (HR8.out.1.below HJ.out).at hjl
                      obtain ⟨gb, rfl, _, _, hgb, _, _, atb⟩ := (HR8.out.2.below HJ.out).at hjl
                      obtain ⟨x0, x1⟩ := rB.at ata
                      obtain ⟨y0, y1⟩ := rB.at atb
                      simp only [show rB.n = 2 from rfl, show rB.zero = (0, 0) from rfl] at x0 x1 y0 y1
                      have hne := fun w => neq_run (L.getD j (0, 0)) (L.getD j (0, 0)) w
                      rw [show (!decide (L.getD j (0, 0) = L.getD j (0, 0))) = false by simp] at hne
                      unfold bval at hne
                      generalize L.getD j (0, 0) = bj at *
                      clear ata atb
                      go_wp2
                      go_quiet (fail)
                      go_wp2
                      go_roundw
                      case rel => exact ⟨j + 1, by omega, by go_num, below_drewN HJ.out _⟩
                      case measure => simp only [intOf]; omega
                    · obtain rfl : j = L.length := by omega
                      go_wp2
                      go_ret
                      exact ⟨rfl, below_call' HFR.out HJ.out⟩

                · have HALL : Hid (¬ allB L (f2, o) true) := hall
                  clear hall
                  go_wp2_with fail
                  refine hA.mono ?_
                  rintro e w9 ⟨-, h9⟩
                  obtain ⟨rfl, O9, Y9⟩ := h9 HALL.out
                  have R9 := Y9.row HR6.out.1 HR6.out.2
                  have hX9 : True := trivial
                  clear hA Y9 HR6 h9
                  have hF7 := O9.free
                  clear hX9
                  go_wp2_with fail
                  refine hF7.mono ?_
                  rintro e w8 ⟨vn, rfl, R8, hb8⟩
                  have Q8 := R9.below hb8
                  obtain ⟨an, cn, rfl⟩ := R8.form
                  have HFR : Hid (Below w.heap.size w w8) := below_call' O9.frame hb8
                  have HR8 : Hid (Row rB w9.heap.size w8 (.slice an L.length cn) L ∧ Row rB _ w8 (.slice aw L.length cw) L) := ⟨R8, Q8⟩
                  clear hF7 R8 Q8 hb8 O9 R9
                  go_wp2_with fail
                  go_loopw [23] (fun iv W => ∃ j : Nat, j ≤ L.length ∧ iv = .int .i64 j ∧ Hid (Below w8.heap.size w8 W)) (fun iv _ => L.length - (intOf iv).toNat)
                  case atStart => exact ⟨0, Nat.zero_le _, rfl, Below.refl _ _⟩
                  case round =>
                    obtain ⟨j, hj, rfl, HJ⟩ := hrel
                    by_cases hjl : j < L.length
                    · have hjz : (j : Int) < (L.length : Int) := by omega
                      obtain ⟨ga, rfl, _, _, hga, _, _, ata⟩ := (HR8.out.1.below HJ.out).at hjl
                      obtain ⟨gb, rfl, _, _, hgb, _, _, atb⟩ := (HR8.out.2.below HJ.out).at hjl
                      obtain ⟨x0, x1⟩ := rB.at ata
                      obtain ⟨y0, y1⟩ := rB.at atb
                      simp only [show rB.n = 2 from rfl, show rB.zero = (0, 0) from rfl] at x0 x1 y0 y1
                      have hne := fun w => neq_run (L.getD j (0, 0)) (L.getD j (0, 0)) w
                      rw [show (!decide (L.getD j (0, 0) = L.getD j (0, 0))) = false by simp] at hne
                      unfold bval at hne
                      generalize L.getD j (0, 0) = bj at *
                      clear ata atb
                      go_wp2
                      go_quiet (fail)
                      go_wp2
                      go_roundw
                      case rel => exact ⟨j + 1, by omega, by go_num, below_drewN HJ.out _⟩
                      case measure => simp only [intOf]; omega
                    · obtain rfl : j = L.length := by omega
                      go_wp2
                      go_ret
                      exact ⟨rfl, below_call' HFR.out HJ.out⟩

              · have hA := HO6.out.takeAtNo a2 o b2 (by simpa using hh)
                clear hh
                go_wp2_with fail
                refine hA.mono ?_
                rintro e w9 ⟨rfl, O9, Y9⟩
                have R9 := Y9.row HR6.out.1 HR6.out.2
                have hX9 : True := trivial
                clear hA Y9 HR6
                have hF7 := O9.free
                clear hX9
                go_wp2_with fail
                refine hF7.mono ?_
                rintro e w8 ⟨vn, rfl, R8, hb8⟩
                have Q8 := R9.below hb8
                obtain ⟨an, cn, rfl⟩ := R8.form
                have HFR : Hid (Below w.heap.size w w8) := below_call' O9.frame hb8
                have HR8 : Hid (Row rB w9.heap.size w8 (.slice an L.length cn) L ∧ Row rB _ w8 (.slice aw L.length cw) L) := ⟨R8, Q8⟩
                clear hF7 R8 Q8 hb8 O9 R9
                go_wp2_with fail
                go_loopw [23] (fun iv W => ∃ j : Nat, j ≤ L.length ∧ iv = .int .i64 j ∧ Hid (Below w8.heap.size w8 W)) (fun iv _ => L.length - (intOf iv).toNat)
                case atStart => exact ⟨0, Nat.zero_le _, rfl, Below.refl _ _⟩
                case round =>
                  obtain ⟨j, hj, rfl, HJ⟩ := hrel
                  by_cases hjl : j < L.length
                  · have hjz : (j : Int) < (L.length : Int) := by omega
                    obtain ⟨ga, rfl, _, _, hga, _, _, ata⟩ := (HR8.out.1.below HJ.out).at hjl
                    obtain ⟨gb, rfl, _, _, hgb, _, _, atb⟩ := (HR8.out.2.below HJ.out).at hjl
                    obtain ⟨x0, x1⟩ := rB.at ata
                    obtain ⟨y0, y1⟩ := rB.at atb
                    simp only [show rB.n = 2 from rfl, show rB.zero = (0, 0) from rfl] at x0 x1 y0 y1
                    have hne := fun w => neq_run (L.getD j (0, 0)) (L.getD j (0, 0)) w
                    rw [show (!decide (L.getD j (0, 0) = L.getD j (0, 0))) = false by simp] at hne
                    unfold bval at hne
                    generalize L.getD j (0, 0) = bj at *
                    clear ata atb
                    go_wp2
                    go_quiet (fail)
                    go_wp2
                    go_roundw
                    case rel => exact ⟨j + 1, by omega, by go_num, below_drewN HJ.out _⟩
                    case measure => simp only [intOf]; omega
                  · obtain rfl : j = L.length := by omega
                    go_wp2
                    go_ret
                    exact ⟨rfl, below_call' HFR.out HJ.out⟩
end Go.Proofs.YtbpihdeinkopfaaDoor
