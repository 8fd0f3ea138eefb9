/- The document's May. -/
import Derived.Test.YtaeodbeodacmaaaAChk
namespace Go.Proofs.Ytaeodbeodacmaaa
open Go.RowKit

set_option maxRecDepth 100000 in
set_option maxHeartbeats 8000000 in
theorem may_any {w : World} {ao : Option Addr} {c : Nat} {L : List AAr} (hs : Sn rAAr w ao L) (hm : L.length ≤ maxLen) :
    Calls Try.prog 14 #[.slice ao L.length c] w fun e w' => ((MayA L ∧ e = .returned (.bool true)) ∨ (¬ MayA L ∧ e = .returned (.bool false))) ∧ Below w.heap.size w w' := by
  have hm' : L.length ≤ 9223372036854775807 := by unfold maxLen at hm; omega
  have HS : Hid (Sn rAAr w ao L) := hs
  clear hs hm
  by_cases h64 : L.length ≤ 64
  · have h64z : ¬ (64 < (L.length : Int)) := by omega
    go_enter Try.func14, Try.ntmps14
    go_wp2
    go_loopw [3] (fun iv W => ∃ k : Nat, k ≤ L.length ∧ iv = .int .i64 k ∧ Hid (NrmA (L.take k)) ∧ Hid (Below w.heap.size w W)) (fun iv _ => L.length - (intOf iv).toNat)
    case atStart => exact ⟨0, Nat.zero_le _, rfl, trivial, Below.refl _ _⟩
    case round =>
      obtain ⟨k, hk, rfl, HN, HB⟩ := hrel
      by_cases hlt : k < L.length
      · have hltz : (k : Int) < (L.length : Int) := by omega
        have hst := nrm_step hlt
        rw [good_iff] at hst
        have HST : Hid (NrmA (L.take (k + 1)) ↔ spanB (L.getD k AAr.zero).a (L.getD k AAr.zero).b = true ∧ (0 < k → (decide ((L.getD (k - 1) AAr.zero).b ≤ (L.getD k AAr.zero).a) && !oneB (L.getD (k - 1) AAr.zero) (L.getD k AAr.zero)) = true)) := ⟨fun h => (hst.1 h).2, fun h => hst.2 ⟨HN.out, h⟩⟩
        have HBD : Hid (¬ NrmA (L.take (k + 1)) → ¬ MayA L) := fun h h' => h (nrm_take h'.2 _)
        obtain ⟨g, off, rfl, hg, c0, c1, c2, c3, c4⟩ := AAr.sn (HS.out.below HB.out) hlt
        have hp : 0 < k → _ := fun h => AAr.sn (HS.out.below HB.out) (show k - 1 < L.length by omega)
        have hSp := fun w => rspan_any (L.getD k AAr.zero).a (L.getD k AAr.zero).b w
        clear hst HN
        generalize L.getD k AAr.zero = d at *
        generalize L.getD (k - 1) AAr.zero = e at *
        generalize spanB d.a d.b = sp at *
        cases sp with
        | false =>
          have HNO : Hid (¬ MayA L) := HBD.out fun h => absurd (HST.out.1 h).1 (by simp)
          clear hp HST HBD
          go_wp2
          go_quiet ((go_at_call 22; exact Calls.quiet_of_same (hSp _)))
          go_wp2
          go_ret
          exact ⟨Or.inr ⟨HNO.out, rfl⟩, by first | exact below_drewN HB.out _ | exact below_drewN (below_drewN HB.out _) _⟩
        | true =>
          rcases Nat.eq_zero_or_pos k with rfl | hk0
          · have HYES : Hid (NrmA (L.take (0 + 1))) := HST.out.2 ⟨rfl, fun h => absurd h (Nat.lt_irrefl _)⟩
            clear hp HST HBD
            simp only [Nat.zero_mul, Nat.add_zero] at c0 c1 c2 c3 c4
            go_wp2
            go_quiet ((go_at_call 22; exact Calls.quiet_of_same (hSp _)))
            go_wp2
            go_quiet (fail)
            go_wp2
            go_roundw
            case rel => exact ⟨0 + 1, by omega, by go_num, HYES, by first | exact below_drewN HB.out _ | exact below_drewN (below_drewN HB.out _) _⟩
            case measure => simp only [intOf]; omega
          · obtain ⟨g', off', e', hg2, p0, p1, p2, p3, p4⟩ := hp hk0
            cases e'
            obtain ⟨j, rfl⟩ : ∃ j, k = j + 1 := ⟨k - 1, by omega⟩
            have hjz : (j : Int) < (L.length : Int) := by omega
            simp only [Nat.add_sub_cancel] at p0 p1 p2 p3 p4
            have hwj : IntKind.i64.wrap (j : Int) = (j : Int) := by rw [IntKind.wrap_i64]; omega
            have hj0 : (0 : Int) ≤ (j : Int) := by omega
            have hE := eql_rt e.w e.x d.w d.x
            have HF : Hid ((decide (e.b ≤ d.a) && !oneB e d) = true → NrmA (L.take (j + 1 + 1))) := fun h => HST.out.2 ⟨rfl, fun _ => h⟩
            have HF' : Hid ((decide (e.b ≤ d.a) && !oneB e d) = false → ¬ MayA L) := fun h => HBD.out fun h' => by
              have := (HST.out.1 h').2 hk0
              rw [h] at this
              cases this
            clear hp HST HBD hg2
            unfold oneB at HF HF'
            obtain ⟨ea, eb, ew, ex, eh⟩ := e
            obtain ⟨da, db, dw, dx, dh⟩ := d
            simp only at *
            generalize (ew == dw && ex == dx) = p at *
            generalize hq : (eh == dh) = q at *
            by_cases t1 : da < eb
            · have t1' : decide (da < eb) = true := decide_eq_true t1
              have HNO : Hid (¬ MayA L) := HF'.out (by rw [decide_eq_false (by omega)]; rfl)
              clear HF HF'
              go_wp2
              go_quiet ((go_at_call 22; exact Calls.quiet_of_same (hSp _)))
              go_wp2
              go_quiet (fail)
              go_wp2
              go_ret
              exact ⟨Or.inr ⟨HNO.out, rfl⟩, by first | exact below_drewN HB.out _ | exact below_drewN (below_drewN HB.out _) _⟩
            · have t1' : decide (da < eb) = false := decide_eq_false t1
              rw [decide_eq_true (show eb ≤ da by omega)] at HF HF'
              by_cases t2 : eb = da
              · have t2' : (eb == da) = true := beq_iff_eq.2 t2
                rw [decide_eq_true t2] at HF HF'
                clear t1 t2
                cases p with
                | true =>
                  cases q with
                  | true =>
                    have HNO : Hid (¬ MayA L) := HF'.out rfl
                    clear HF HF'
                    go_wp2
                    go_quiet ((go_at_call 22; exact Calls.quiet_of_same (hSp _)))
                    go_wp2
                    go_quiet (fail)
                    go_wp2
                    go_ret
                    exact ⟨Or.inr ⟨HNO.out, rfl⟩, by first | exact below_drewN HB.out _ | exact below_drewN (below_drewN HB.out _) _⟩
                  | false =>
                    have HYES : Hid (NrmA (L.take (j + 1 + 1))) := HF.out rfl
                    clear HF HF'
                    go_wp2
                    go_quiet ((go_at_call 22; exact Calls.quiet_of_same (hSp _)))
                    go_wp2
                    go_quiet (fail)
                    go_wp2
                    go_roundw
                    case rel => exact ⟨j + 1 + 1, by omega, by go_num, HYES, by first | exact below_drewN HB.out _ | exact below_drewN (below_drewN HB.out _) _⟩
                    case measure => simp only [intOf]; omega
                | false =>
                  have HYES : Hid (NrmA (L.take (j + 1 + 1))) := HF.out rfl
                  clear HF HF'
                  go_wp2
                  go_quiet ((go_at_call 22; exact Calls.quiet_of_same (hSp _)))
                  go_wp2
                  go_quiet (fail)
                  go_wp2
                  go_roundw
                  case rel => exact ⟨j + 1 + 1, by omega, by go_num, HYES, by first | exact below_drewN HB.out _ | exact below_drewN (below_drewN HB.out _) _⟩
                  case measure => simp only [intOf]; omega
              · have t2' : (eb == da) = false := beq_eq_false_iff_ne.2 t2
                rw [decide_eq_false t2] at HF HF'
                have HYES : Hid (NrmA (L.take (j + 1 + 1))) := HF.out rfl
                clear HF HF' t1 t2
                go_wp2
                go_quiet ((go_at_call 22; exact Calls.quiet_of_same (hSp _)))
                go_wp2
                go_quiet (fail)
                go_wp2
                go_roundw
                case rel => exact ⟨j + 1 + 1, by omega, by go_num, HYES, by first | exact below_drewN HB.out _ | exact below_drewN (below_drewN HB.out _) _⟩
                case measure => simp only [intOf]; omega
      · obtain rfl : k = L.length := by omega
        have HY : Hid (MayA L) := ⟨h64, by have := HN.out; rwa [List.take_length] at this⟩
        go_wp2
        go_ret
        exact ⟨Or.inl ⟨HY.out, rfl⟩, HB.out⟩
  · have h64z : 64 < (L.length : Int) := by omega
    have HNO : Hid (¬ MayA L) := fun h => h64 h.1
    go_enter Try.func14, Try.ntmps14
    go_wp2
    go_ret
    exact ⟨Or.inr ⟨HNO.out, rfl⟩, Below.refl _ _⟩
end Go.Proofs.Ytaeodbeodacmaaa
