/- ZoneBack, walked. -/
import Derived.Test.YtmmbfgkfidconaaDoorJE
import Derived.Test.YtmmbfgkfidconaaDoorJX
import Derived.Deep.CutRange
import Derived.Lib.ItoaWalk
namespace Go.Proofs.YtmmbfgkfidconaaDoor
open Go.RowKit

/-- What a Take leaves, whatever it tells. -/
def AnyW (W w : World) (z n : Nat) (G : Nat → Prop) (e : Ending) (w' : World) : Prop := ∃ v L' gs', e = .returned v ∧ Zn W w' z n L' gs' G ∧ Stay G w w'
theorem TakeW.any {W w : World} {z n : Nat} {L : List Bk} {gs : List Gp} {G : Nat → Prop} {s : Int} {o : Nat} {res : Option Bk} {e : Ending} {w' : World} (h : TakeW W w z n L gs G s o res e w') : AnyW W w z n G e w' := by
  unfold TakeW at h
  cases res with
  | none => exact ⟨_, _, _, h.1, h.2⟩
  | some r =>
    obtain ⟨e1, L', h1, h2, _⟩ := h
    exact ⟨_, _, _, e1, h1, h2⟩
theorem Zn.takeAny {W w : World} {z n : Nat} {L : List Bk} {gs : List Gp} {G : Nat → Prop} (h : Zn W w z n L gs G) (hT : Tab W) (s o : Nat) (hs : s < 2) (ho : o < 4) :
    Calls Tryd.prog 14 #[.pointer (some ⟨z, 0, none⟩), .int .i64 s, .int .i64 o] w (AnyW W w z n G) := by
  obtain ⟨res, hr⟩ := zp_ex (gs := gs) h.ok (s : Int) o
  exact (h.take hT s (by omega) o (by omega) hr).mono fun _ _ h => h.any
set_option maxRecDepth 100000 in
set_option maxHeartbeats 16000000 in
theorem walk_zoneBack (a0 : Int) (ao : Option Addr) (len cap : Nat) (D : Nat → YDd) (a1 a2 : Int) (w : World) (hT : Tab w) (b0 : -9223372036854775808 ≤ a0 ∧ a0 ≤ 9223372036854775807) (hm : len ≤ maxLen) (hL : Lst YDd.cells YDd.ok 4 w ao len D) (b1 : -9223372036854775808 ≤ a1 ∧ a1 ≤ 9223372036854775807) (b2 : -9223372036854775808 ≤ a2 ∧ a2 ≤ 9223372036854775807) :
    Calls Tryd.prog 7 #[.int .i64 a0, .slice ao len cap, .int .i64 a1, .int .i64 a2] w fun e w' => e = .returned (.bool true) ∧ Below w.heap.size w w' := by
  have hU := up8_any w hT
  have hP0 := fun w => pick8_any a0 70 w b0.1 b0.2 (by decide) (by decide)
  have hP1 := fun w => pick8_any a1 2 w b1.1 b1.2 (by decide) (by decide)
  have hP2 := fun w => pick8_any a2 4 w b2.1 b2.2 (by decide) (by decide)
  have l0 := pickN_lt a0 70 (by decide)
  have l1 := pickN_lt a1 2 (by decide)
  have l2 := pickN_lt a2 4 (by decide)
  obtain ⟨n, hn⟩ : ∃ n, n = 1 + pickN a0 70 := ⟨_, rfl⟩
  have hnz : (1 : Int) + (pickN a0 70 : Int) = (n : Int) := by omega
  have hn1 : 1 ≤ n := by omega
  have hn2 : n ≤ 70 := by omega
  have hmz : len ≤ 9223372036854775807 := by unfold maxLen at hm; omega
  generalize pickN a1 2 = so at *
  generalize pickN a2 4 = o at *
  have HT : Hid (Tab w) := hT
  have HL : Hid (Lst YDd.cells YDd.ok 4 w ao len D) := hL
  clear hT hn hL hm
  go_enter Tryd.func7, Tryd.ntmps7
  go_wp2_with fail
  refine hU.mono ?_
  rintro e w1 ⟨rfl, hb1⟩
  have hN := znNew (G := fun _ => False) HT.out hb1 (fun _ h => h.elim) n hn1 (by omega)
  clear hU
  go_wp2_with (go_at_call 12; refine (hP0 _).mono ?_; rintro e w2 ⟨rfl, hw⟩; obtain rfl := hw.symm; clear hw)
  refine hN.mono ?_
  rintro e w2 ⟨z, rfl, O2, -⟩
  have HO2 : Hid (Zn w w2 z n (blkL 0 n) (List.replicate ((n + 7) / 8) (1, false)) (fun _ => False)) := O2
  clear hN hb1 O2
  go_wp2_with fail
  go_loopw [12] (fun iv W => ∃ (k : Nat) (L : List Bk) (gs : List Gp), k ≤ len ∧ k ≤ 30 ∧ iv = .int .i64 k ∧ Hid (Zn w W z n L gs (fun _ => False))) (fun iv _ => len - (intOf iv).toNat)
  case atStart => exact ⟨0, _, _, Nat.zero_le _, by omega, rfl, HO2⟩
  case round =>
    obtain ⟨k, L, gs, hk, hk4, rfl, HI⟩ := hrel
    clear HO2
    by_cases hlt : k < len ∧ k < 30
    · have hz1 : (k : Int) < (len : Int) := by omega
      have hz2 : (k : Int) < 30 := by omega
      obtain ⟨bb, off, rfl, hbw, hal⟩ := (HL.out.below HI.out.frame).at hlt.1
      obtain ⟨hok, hcl⟩ := hal k hlt.1
      have c1 := hcl 1 (by decide)
      have c2 := hcl 2 (by decide)
      simp [YDd.cells] at c1 c2
      obtain ⟨-, ⟨p1, p2⟩, ⟨q1, q2⟩, -⟩ := hok
      have hPa := fun w => pick8_any (D k).sort 2 w p1 p2 (by decide) (by decide)
      have hPb := fun w => pick8_any (D k).order 4 w q1 q2 (by decide) (by decide)
      have la := pickN_lt (D k).sort 2 (by decide)
      have lb := pickN_lt (D k).order 4 (by decide)
      generalize (D k).sort = ds at *
      generalize (D k).order = od at *
      have hTk := fun w' (hb : Below wr.heap.size wr w') => (HI.out.below hb).takeAny HT.out (pickN ds 2) (pickN od 4) la lb
      generalize pickN ds 2 = s2 at *
      generalize pickN od 4 = o2 at *
      have hT1 := hTk wr.drew (Below.refl _ _).drew
      have hbw2 : bb < w.heap.size := by
        rcases HL.out with h | ⟨b', off', e, h, _⟩
        · omega
        · cases e; exact h
      have HFR : Hid (∀ w', AnyW w wr.drew z n (fun _ => False) (.returned (.bool true)) w' → True) := fun _ _ => trivial
      clear hal hcl hTk HFR
      go_wp2_with fail
      go_region_held3 (fun w' => w'.cell? ⟨bb, off + k * 4 + 1, none⟩ = some (.int .i64 ds) ∧ w'.cell? ⟨bb, off + k * 4 + 2, none⟩ = some (.int .i64 od)) (go_keep)
        (first
        | (go_at_call 12; refine (hPa _).mono ?_; rintro e w5 ⟨rfl, hw⟩; obtain rfl := hw.symm; clear hw hPa)
        | (go_at_call 12; refine (hPb _).mono ?_; rintro e w5 ⟨rfl, hw⟩; obtain rfl := hw.symm; clear hw hPb)
        | (go_at_call 14; refine hT1.mono ?_; rintro e w3 ⟨v3, L3, gs3, rfl, O3, S3⟩; have hx3 : ∀ j, w3.cell? ⟨bb, j, none⟩ = wr.cell? ⟨bb, j, none⟩ := (fun j => ((bcell O3.frame).1 bb j hbw2).trans ((bcell HI.out.frame).1 bb j hbw2).symm)))
      have HO3 : Hid (Zn w w3 z n L3 gs3 (fun _ => False)) := O3
      clear O3 S3 hx3 hT1 HI c1 c2
      go_wp2
      go_roundw
      case rel => exact ⟨k + 1, L3, gs3, by omega, by omega, by go_num, HO3⟩
      case measure => simp only [intOf]; omega
    · have hx : (¬ (k : Int) < (len : Int)) ∨ ((k : Int) < (len : Int) ∧ ¬ (k : Int) < 30) := by omega
      clear hlt hk hk4 HL
      have hF := HI.out.free
      have hlen := HI.out.ok.len
      obtain ⟨res, hres⟩ := zp_ex (gs := gs) HI.out.ok (so : Int) o
      rcases hx with h1 | ⟨h1, h2⟩
      all_goals
        go_wp2_with fail
        refine hF.mono ?_
        rintro e w4 ⟨vw, rfl, R4, hb4⟩
        have O4 := HI.out.more hb4
        obtain ⟨aw, cw, rfl⟩ := R4.form
        obtain ⟨G, hG⟩ : ∃ G : Nat → Prop, G = plus (fun _ => False) wr w4 := ⟨_, rfl⟩
        rw [← hG] at O4
        have HR4 : Hid (Row rB wr.heap.size w4 (.slice aw L.length cw) L ∧ ∀ g, (Value.slice aw L.length cw).ownBlock = some g → G g) := ⟨R4, fun g hg => by rw [hG]; exact Or.inr (R4.lt g hg)⟩
        have hK := O4.take HT.out (so : Int) (by omega) o (by omega) hres
        have HOK : Hid (Okl n L ∧ gs.length = (n + 7) / 8) := ⟨O4.ok, O4.len.1⟩
        have HZP : Hid (Zp gs L so o res) := hres
        clear hF O4 R4 hb4 hG
        unfold TakeW at hK
        cases res with
        | none =>
          simp only at hK
          as_aux_lemma =>
          go_wp2_with fail
          refine (hP1 _).mono ?_
          rintro e w5 ⟨rfl, hw⟩
          obtain rfl := hw.symm
          clear hw hP1
          go_wp2_with fail
          refine (hP2 _).mono ?_
          rintro e w5 ⟨rfl, hw⟩
          obtain rfl := hw.symm
          clear hw hP2
          go_wp2_with fail
          refine hK.mono ?_
          rintro e w6 ⟨rfl, O6, S6⟩
          have R6 := S6.row HR4.out.1 HR4.out.2
          have hF6 := O6.free
          clear hK S6
          go_wp2_with fail
          refine hF6.mono ?_
          rintro e w8 ⟨vn, rfl, R8, hb8⟩
          have Q8 := R6.below hb8
          obtain ⟨an, cn, rfl⟩ := R8.form
          have HFR : Hid (Below w.heap.size w w8) := below_call' O6.frame hb8
          have HR8 : Hid (Row rB w6.heap.size w8 (.slice an L.length cn) L ∧ Row rB wr.heap.size w8 (.slice aw L.length cw) L) := ⟨R8, Q8⟩
          clear hF6 R8 Q8 hb8 O6 R6 HR4
          go_wp2_with fail
          go_loopw [20] (fun iv W => ∃ j : Nat, j ≤ L.length ∧ iv = .int .i64 j ∧ Hid (Below w8.heap.size w8 W)) (fun iv _ => L.length - (intOf iv).toNat)
          case atStart => exact ⟨0, Nat.zero_le _, rfl, Below.refl _ _⟩
          case round =>
            obtain ⟨j, hj, rfl, HJ⟩ := hrel
            by_cases hjl : j < L.length
            · have hjz : (j : Int) < (L.length : Int) := by omega
              obtain ⟨ga, rfl, -, -, hga, -, -, ata⟩ := (HR8.out.1.below HJ.out).at hjl
              obtain ⟨gb, rfl, -, -, hgb, -, -, atb⟩ := (HR8.out.2.below HJ.out).at hjl
              obtain ⟨x0, x1⟩ := rB.at ata
              obtain ⟨y0, y1⟩ := rB.at atb
              simp only [show rB.n = 2 from rfl, show rB.zero = (0, 0) from rfl] at x0 x1 y0 y1
              have hne := fun w => neq_run (L.getD j (0, 0)) (L.getD j (0, 0)) w
              rw [show (!decide (L.getD j (0, 0) = L.getD j (0, 0))) = false by simp] at hne
              unfold bval at hne
              generalize L.getD j (0, 0) = bj at *
              clear ata atb
              go_wp2
              go_quiet (fail)
              go_wp2
              go_roundw
              case rel => exact ⟨j + 1, by omega, by go_num, below_drewN HJ.out _⟩
              case measure => simp only [intOf]; omega
            · obtain rfl : j = L.length := by omega
              go_wp2
              go_ret
              exact ⟨rfl, below_call' HFR.out HJ.out⟩
        | some r =>
          simp only at hK
          as_aux_lemma =>
          have hblk := HZP.out.block HOK.out.1
          obtain ⟨f, ro⟩ := r
          simp only at hblk hK
          obtain ⟨gi, hgi⟩ : ∃ gi, f / 8 = gi := ⟨_, rfl⟩
          rw [hgi] at hblk hK
          have HBL : Hid (alB (f, o) ∧ bend (f, o) ≤ n ∧ allB L (f, o) true ∧ gi < gs.length) := ⟨hblk.1, hblk.2.1, hblk.2.2.1, hblk.2.2.2.1⟩
          have hf5 : f ≤ 512 := by have := hblk.2.1; have : bend (f, o) = f + 2 ^ o := rfl; have := Nat.two_pow_pos o; omega
          have hgz : (f : Int) / 8 = (gi : Int) := by omega
          have hfo : f % 2 ^ o = 0 := Nat.mod_eq_zero_of_dvd hblk.1.2
          have hpo : (0 : Int) < 2 ^ o := Int.pow_pos (by decide)
          have hpo2 : (2 : Int) ^ o ≤ 8 := by
            have h1 : (2 : Nat) ^ o ≤ 2 ^ 3 := Nat.pow_le_pow_right (by decide) (by omega)
            have h2 : ((2 ^ o : Nat) : Int) = 2 ^ o := by simp
            omega
          have hrem : (f : Int) % 2 ^ o = 0 := by
            have h2 : ((2 ^ o : Nat) : Int) = 2 ^ o := by simp
            rw [← h2, ← Int.natCast_emod, hfo]
            rfl
          have hpne : ¬ (2 : Int) ^ o = 0 := by omega
          clear hblk hgi hfo
          go_wp2_with fail
          refine (hP1 _).mono ?_
          rintro e w5 ⟨rfl, hw⟩
          obtain rfl := hw.symm
          clear hw hP1
          go_wp2_with fail
          refine (hP2 _).mono ?_
          rintro e w5 ⟨rfl, hw⟩
          obtain rfl := hw.symm
          clear hw hP2
          go_wp2_with fail
          refine hK.mono ?_
          rintro e w6 ⟨rfl, L6, O6, S6, cv6⟩
          have R6 := S6.row HR4.out.1 HR4.out.2
          have HR6 : Hid (Row rB wr.heap.size w6 (.slice aw L.length cw) L ∧ ∀ g, (Value.slice aw L.length cw).ownBlock = some g → G g) := ⟨R6, HR4.out.2⟩
          have hFr := O6.isFree (f : Int)
          have hfr : freeB L6 (f : Int) = false := by
            rw [nat_free', covB_false]
            intro hc
            exact ((cv6 f).1 hc).2 ⟨Nat.le_refl _, bend_pos (f, o)⟩
          rw [hfr] at hFr
          have HO6 : Hid (Zn w w6 z n L6 (gs.set gi ((so : Int), false)) G ∧ ∀ x, cov L6 x ↔ cov L x ∧ ¬ inB (f, o) x) := ⟨O6, cv6⟩
          clear hK S6 R6 O6 cv6 hfr HR4
          go_wp2_with fail
          refine hFr.mono ?_
          rintro e w7 ⟨rfl, hb7⟩
          have O7 := HO6.out.1.below hb7
          have HR7 : Hid (Row rB wr.heap.size w7 (.slice aw L.length cw) L ∧ ∀ g, (Value.slice aw L.length cw).ownBlock = some g → G g) := ⟨HR6.out.1.below hb7, HR6.out.2⟩
          have hS7 := O7.sort gi (by simpa using HBL.out.2.2.2)
          rw [getD_set gs HBL.out.2.2.2] at hS7
          have hG7 := O7.give (f, o) HBL.out.1 (by show o ≤ 3; omega) HBL.out.2.1
          have hss : ((so : Int) != (so : Int)) = false := by simp
          clear hFr hb7 O7 HR6
          go_wp2_with (go_at_call 25; refine hS7.mono ?_; rintro e w5 ⟨rfl, hw⟩; obtain rfl := hw.symm; clear hw)
          clear hS7
          refine hG7.mono ?_
          rintro e w8 ⟨h8, -⟩
          obtain ⟨rfl, L8, O8, S8, cv8⟩ := h8 (allB_gone HO6.out.2)
          have e8 : L8 = L := size_same O8.ok HOK.out.1 (cov_back HO6.out.2 cv8 fun x hx => (covB_iff _ _).1 (HBL.out.2.2.1 x hx))
          subst e8
          have R8 := S8.row HR7.out.1 HR7.out.2
          have hF8 := O8.free
          clear hG7 h8 cv8 S8 HR7
          go_wp2_with fail
          refine hF8.mono ?_
          rintro e w9 ⟨vn, rfl, R9, hb9⟩
          have Q9 := R8.below hb9
          obtain ⟨an, cn, rfl⟩ := R9.form
          have HFR : Hid (Below w.heap.size w w9) := below_call' O8.frame hb9
          have HR8 : Hid (Row rB w8.heap.size w9 (.slice an L8.length cn) L8 ∧ Row rB wr.heap.size w9 (.slice aw L8.length cw) L8) := ⟨R9, Q9⟩
          clear hF8 R9 Q9 hb9 O8 R8
          go_wp2_with fail
          go_loopw [20] (fun iv W => ∃ j : Nat, j ≤ L8.length ∧ iv = .int .i64 j ∧ Hid (Below w9.heap.size w9 W)) (fun iv _ => L8.length - (intOf iv).toNat)
          case atStart => exact ⟨0, Nat.zero_le _, rfl, Below.refl _ _⟩
          case round =>
            obtain ⟨j, hj, rfl, HJ⟩ := hrel
            by_cases hjl : j < L8.length
            · have hjz : (j : Int) < (L8.length : Int) := by omega
              obtain ⟨ga, rfl, -, -, hga, -, -, ata⟩ := (HR8.out.1.below HJ.out).at hjl
              obtain ⟨gb, rfl, -, -, hgb, -, -, atb⟩ := (HR8.out.2.below HJ.out).at hjl
              obtain ⟨x0, x1⟩ := rB.at ata
              obtain ⟨y0, y1⟩ := rB.at atb
              simp only [show rB.n = 2 from rfl, show rB.zero = (0, 0) from rfl] at x0 x1 y0 y1
              have hne := fun w => neq_run (L8.getD j (0, 0)) (L8.getD j (0, 0)) w
              rw [show (!decide (L8.getD j (0, 0) = L8.getD j (0, 0))) = false by simp] at hne
              unfold bval at hne
              generalize L8.getD j (0, 0) = bj at *
              clear ata atb
              go_wp2
              go_quiet (fail)
              go_wp2
              go_roundw
              case rel => exact ⟨j + 1, by omega, by go_num, below_drewN HJ.out _⟩
              case measure => simp only [intOf]; omega
            · obtain rfl : j = L8.length := by omega
              go_wp2
              go_ret
              exact ⟨rfl, below_call' HFR.out HJ.out⟩
end Go.Proofs.YtmmbfgkfidconaaDoor
