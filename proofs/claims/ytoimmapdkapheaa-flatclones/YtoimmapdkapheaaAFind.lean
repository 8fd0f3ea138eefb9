/- Find. -/
import Derived.Test.YtoimmapdkapheaaAChk
import Derived.Laws.ResultCell
namespace Go.Proofs.Ytoimmapdkapheaa
set_option maxRecDepth 4000
open Go.RowKit

theorem fnd_drop {p : Int} {L : List AAr} {k : Nat} (h : k < L.length) : fndA p (L.drop k) = if (L.getD k AAr.zero).a ≤ p ∧ p < (L.getD k AAr.zero).b then some (L.getD k AAr.zero) else fndA p (L.drop (k + 1)) := by
  rw [drop_cons L h]
  rfl
theorem below_sets {w wr : World} {g : Nat} (h : Below w.heap.size w wr) (hg : w.heap.size ≤ g) (vs : List Value) : Below w.heap.size w (wr.setCells g 0 vs) :=
  h.trans ((Keeps.sets vs wr g 0).below h.size fun b _ e => by rw [e]; exact hg)
theorem below_set5 {w wr : World} {g : Nat} (h : Below w.heap.size w wr) (hg : w.heap.size ≤ g) (a b c d e : Value) : Below w.heap.size w (((((wr.setCell ⟨g, 0, none⟩ a).setCell ⟨g, 1, none⟩ b).setCell ⟨g, 2, none⟩ c).setCell ⟨g, 3, none⟩ d).setCell ⟨g, 4, none⟩ e) := below_sets h hg [a, b, c, d, e]
/-- What Find tells of a list that may be. -/
def fndV (r : Option AAr) : Value := match r with
  | some d => .tuple #[av d, .nilIface]
  | none => .tuple #[av AAr.zero, .iface 48 (.int .i64 3)]
set_option maxRecDepth 100000 in
set_option maxHeartbeats 4000000 in
theorem find_any {w : World} {ao : Option Addr} {c : Nat} {L : List AAr} (hs : Sn rAAr w ao L) (hm : L.length ≤ maxLen) (p : Int) :
    Calls Try.prog 54 #[.slice ao L.length c, .int .i64 p] w fun e w' => ((MayA L ∧ e = .returned (fndV (fndA p L))) ∨ (¬ MayA L ∧ e = .returned (.tuple #[av AAr.zero, .iface 48 (.int .i64 1)]))) ∧ Below w.heap.size w w' := by
  have hm' : L.length ≤ 9223372036854775807 := by unfold maxLen at hm; omega
  have B1 : Below w.heap.size w (w.alloc (.cells AAr.zero.arr 55)) := (Below.refl _ _).alloc (Nat.le_refl _) _
  have hC := check_any (c := c) (hs.below B1) hm
  have HS : Hid (Sn rAAr w ao L) := hs
  have HB0 : Hid (Below w.heap.size w (w.alloc (.cells AAr.zero.arr 55)) ∧ Laid (w.alloc (.cells AAr.zero.arr 55)) w.heap.size 55 AAr.zero.arr) := ⟨B1, Laid.new _ _ _⟩
  clear hs hm B1
  unfold AAr.arr AAr.zero at HB0 hC
  simp only at HB0 hC
  go_enter Try.func54, Try.ntmps54
  go_wp2_with fail
  refine hC.mono ?_
  rintro e w1 ⟨h, hb⟩
  have HB1 : Hid (Below w.heap.size w w1) := below_call HB0.out.1 HB0.out.1.size hb
  have X1 := HB0.out.2.below hb
  obtain ⟨z0, z1, z2, z3, z4⟩ := AAr.laid (d := AAr.zero) X1
  simp only [AAr.zero] at z0 z1 z2 z3 z4
  have hlw1 := X1.lt
  have zf1 := fun o => frozen_of_row w1 w.heap.size o _ _ X1
  have HX1 : Hid (Laid w1 w.heap.size 55 #[.int .i64 0, .int .i64 0, .bool false, .bool false, .bool false]) := X1
  rcases h with ⟨hM, rfl⟩ | ⟨hM, rfl⟩
  · have HM : Hid (MayA L) := hM
    clear hM hb hC X1 HB0 z0 z1 z2 z3 z4 zf1 hlw1
    go_wp2
    go_loopw [17] (fun iv W => ∃ k : Nat, k ≤ L.length ∧ iv = .int .i64 k ∧ Hid (fndA p L = fndA p (L.drop k)) ∧ Hid (Below w1.heap.size w1 W)) (fun iv _ => L.length - (intOf iv).toNat)
    case atStart => exact ⟨0, Nat.zero_le _, rfl, rfl, Below.refl _ _⟩
    case round =>
      obtain ⟨k, hk, rfl, HF, HB⟩ := hrel
      have XR := HX1.out.below HB.out
      have hlw := XR.lt
      obtain ⟨z0, z1, z2, z3, z4⟩ := AAr.laid (d := AAr.zero) XR
      have zf := fun o => frozen_of_row wr w.heap.size o _ _ XR
      have za := fun o (v : Obj) => frozen_alloc_old (w := wr) hlw o v
      simp only [AAr.zero] at z0 z1 z2 z3 z4
      by_cases hlt : k < L.length
      · have hltz : (k : Int) < (L.length : Int) := by omega
        have hst := fnd_drop (p := p) hlt
        rw [← HF.out] at hst
        have HBA : Hid (Below w1.heap.size w1 (wr.alloc (.cells (L.getD k AAr.zero).arr 55))) := HB.out.alloc HB.out.size _
        obtain ⟨g, off, rfl, hg, c0, c1, c2, c3, c4⟩ := AAr.sn ((HS.out.below HB1.out).below HB.out) hlt
        have HBW : Hid (Below w.heap.size w wr) := below_call HB1.out HB1.out.size HB.out
        generalize L.getD k AAr.zero = d at *
        clear HB
        obtain ⟨da, db, dw, dx, dh⟩ := d
        unfold AAr.arr at *
        simp only at *
        by_cases t1 : da ≤ p
        · by_cases t2 : p < db
          · rw [if_pos ⟨t1, t2⟩] at hst
            have HR : Hid (fndA p L = some ⟨da, db, dw, dx, dh⟩) := hst
            clear hst HF HX1 XR
            clear HBA
            go_wp2
            refine bodyPost_ret (v := .tuple #[av ⟨da, db, dw, dx, dh⟩, .nilIface]) ?_ rfl ⟨Or.inl ⟨HM.out, congrArg Ending.returned (congrArg fndV HR.out.symm)⟩, ?_⟩
            · have hca := cell_alloc_old (w := ((((wr.setCell ⟨w.heap.size, 0, none⟩ (.int .i64 da)).setCell ⟨w.heap.size, 1, none⟩ (.int .i64 db)).setCell ⟨w.heap.size, 2, none⟩ (.bool dw)).setCell ⟨w.heap.size, 3, none⟩ (.bool dx)).setCell ⟨w.heap.size, 4, none⟩ (.bool dh)) (b := w.heap.size) (by simp; exact hlw)
              simp [results, Try.results54, go_sem, av, hca, z0, z1, z2, z3, z4]
            · have hb := below_set5 HBW.out (Nat.le_refl _) (.int .i64 da) (.int .i64 db) (.bool dw) (.bool dx) (.bool dh)
              exact hb.alloc hb.size _
          · rw [if_neg (fun h => t2 h.2)] at hst
            have HR : Hid (fndA p L = fndA p (L.drop (k + 1))) := hst
            clear hst HF XR
            go_wp2
            go_roundw
            case rel => exact ⟨k + 1, by omega, by go_num, HR, HBA⟩
            case measure => simp only [intOf]; omega
        · rw [if_neg (fun h => t1 h.1)] at hst
          have HR : Hid (fndA p L = fndA p (L.drop (k + 1))) := hst
          clear hst HF XR
          go_wp2
          go_roundw
          case rel => exact ⟨k + 1, by omega, by go_num, HR, HBA⟩
          case measure => simp only [intOf]; omega
      · obtain rfl : k = L.length := by omega
        have HR : Hid (fndA p L = none) := by
          have := HF.out
          rwa [List.drop_length] at this
        have HBB : Hid (Below w.heap.size w wr) := below_call HB1.out HB1.out.size HB.out
        go_wp2
        refine bodyPost_ret (v := .tuple #[av AAr.zero, .iface 48 (.int .i64 3)]) ?_ rfl ⟨Or.inl ⟨HM.out, congrArg Ending.returned (congrArg fndV HR.out.symm)⟩, ?_⟩
        · simp [results, Try.results54, go_sem, av, AAr.zero, z0, z1, z2, z3, z4]
        · exact below_set5 HBB.out (Nat.le_refl _) _ _ _ _ _
  · have HM : Hid (¬ MayA L) := hM
    clear hM hb hC
    go_wp2
    refine bodyPost_ret (v := .tuple #[av AAr.zero, .iface 48 (.int .i64 1)]) ?_ rfl ⟨Or.inr ⟨HM.out, rfl⟩, ?_⟩
    · simp [results, Try.results54, go_sem, av, AAr.zero, z0, z1, z2, z3, z4]
    · exact below_set5 HB1.out (Nat.le_refl _) _ _ _ _ _
end Go.Proofs.Ytoimmapdkapheaa
