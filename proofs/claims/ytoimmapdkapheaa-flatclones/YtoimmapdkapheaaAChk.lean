/- Check, and the document's May. -/
import Derived.Test.YtoimmapdkapheaaALeaf
namespace Go.Proofs.Ytoimmapdkapheaa
set_option maxRecDepth 4000
open Go.RowKit

theorem good_iff (L : List AAr) (i : Nat) : goodA L i ↔ spanB (L.getD i AAr.zero).a (L.getD i AAr.zero).b = true ∧ (0 < i → (decide ((L.getD (i - 1) AAr.zero).b ≤ (L.getD i AAr.zero).a) && !oneB (L.getD (i - 1) AAr.zero) (L.getD i AAr.zero)) = true) := by
  unfold goodA
  rw [spanB_iff]
  simp only [SpanA, Bool.and_eq_true, decide_eq_true_eq, Bool.not_eq_true']
  have h : oneB (L.getD (i - 1) AAr.zero) (L.getD i AAr.zero) = false ↔ ¬ ((L.getD (i - 1) AAr.zero).b = (L.getD i AAr.zero).a ∧ (L.getD (i - 1) AAr.zero).pg = (L.getD i AAr.zero).pg) := by
    rw [← oneB_iff]
    simp
  rw [h]

set_option maxRecDepth 100000 in
set_option maxHeartbeats 4000000 in
theorem check_any {w : World} {ao : Option Addr} {c : Nat} {L : List AAr} (hs : Sn rAAr w ao L) (hm : L.length ≤ maxLen) :
    Calls Try.prog 68 #[.slice ao L.length c] w fun e w' => ((MayA L ∧ e = .returned .nilIface) ∨ (¬ MayA L ∧ e = .returned (.iface 48 (.int .i64 1)))) ∧ Below w.heap.size w w' := by
  have hm' : L.length ≤ 9223372036854775807 := by unfold maxLen at hm; omega
  have HS : Hid (Sn rAAr w ao L) := hs
  clear hs hm
  by_cases h64 : L.length ≤ 64
  · have h64z : ¬ (64 < (L.length : Int)) := by omega
    go_enter Try.func68, Try.ntmps68
    go_wp2
    go_loopw [11] (fun iv W => ∃ k : Nat, k ≤ L.length ∧ iv = .int .i64 k ∧ Hid (NrmA (L.take k)) ∧ Hid (Below w.heap.size w W)) (fun iv _ => L.length - (intOf iv).toNat)
    case atStart => exact ⟨0, Nat.zero_le _, rfl, trivial, Below.refl _ _⟩
    case round =>
      obtain ⟨k, hk, rfl, HN, HB⟩ := hrel
      by_cases hlt : k < L.length
      · have hltz : (k : Int) < (L.length : Int) := by omega
        have hst := nrm_step hlt
        rw [good_iff] at hst
        have HST : Hid (NrmA (L.take (k + 1)) ↔ spanB (L.getD k AAr.zero).a (L.getD k AAr.zero).b = true ∧ (0 < k → (decide ((L.getD (k - 1) AAr.zero).b ≤ (L.getD k AAr.zero).a) && !oneB (L.getD (k - 1) AAr.zero) (L.getD k AAr.zero)) = true)) := ⟨fun h => (hst.1 h).2, fun h => hst.2 ⟨HN.out, h⟩⟩
        have HBD : Hid (¬ NrmA (L.take (k + 1)) → ¬ MayA L) := fun h h' => h (nrm_take h'.2 _)
        have HBA : Hid (Below w.heap.size w (wr.alloc (.cells (L.getD k AAr.zero).arr 55))) := HB.out.alloc HB.out.size _
        obtain ⟨g, off, rfl, hg, c0, c1, c2, c3, c4⟩ := AAr.sn (HS.out.below HB.out) hlt
        have hg' : g < (wr.alloc (.cells (L.getD k AAr.zero).arr 55)).heap.size := by simp; omega
        have hp : 0 < k → _ := fun h => AAr.sn (HS.out.below HB.out) (show k - 1 < L.length by omega)
        have hSp := fun w => span_any (L.getD k AAr.zero).a (L.getD k AAr.zero).b w
        have hFo := fun w => follow_any (L.getD (k - 1) AAr.zero) (L.getD k AAr.zero) w
        clear hst HB HN
        unfold AAr.arr at *
        generalize L.getD k AAr.zero = d at *
        generalize L.getD (k - 1) AAr.zero = e at *
        generalize spanB d.a d.b = sp at *
        generalize (decide (e.b ≤ d.a) && !oneB e d) = fo at *
        unfold av at hFo
        have HW : Hid (∀ w', Below (wr.alloc (.cells #[.int .i64 d.a, .int .i64 d.b, .bool d.w, .bool d.x, .bool d.h] 55)).heap.size (wr.alloc (.cells #[.int .i64 d.a, .int .i64 d.b, .bool d.w, .bool d.x, .bool d.h] 55)) w' → Below w.heap.size w w') := fun w' h => below_call HBA.out HBA.out.size h
        cases sp with
        | false =>
          have HNO : Hid (¬ MayA L) := HBD.out fun h => absurd (HST.out.1 h).1 (by simp)
          clear hp hFo HST HBD
          go_wp2
          go_quiet ((go_at_call 72; exact Calls.quiet_of_same (hSp _)))
          go_wp2
          go_ret
          exact ⟨Or.inr ⟨HNO.out, rfl⟩, below_drewN HBA.out _⟩
        | true =>
          rcases Nat.eq_zero_or_pos k with rfl | hk0
          · have HYES : Hid (NrmA (L.take (0 + 1))) := HST.out.2 ⟨rfl, fun h => absurd h (Nat.lt_irrefl _)⟩
            clear hp hFo HST HBD
            simp only [Nat.zero_mul, Nat.add_zero] at c0 c1 c2 c3 c4
            go_wp2
            go_quiet ((go_at_call 72; exact Calls.quiet_of_same (hSp _)))
            go_wp2
            go_roundw
            case rel => exact ⟨0 + 1, by omega, by go_num, HYES, below_drewN HBA.out _⟩
            case measure => simp only [intOf]; omega
          · obtain ⟨g', off', e', hg2, p0, p1, p2, p3, p4⟩ := hp hk0
            cases e'
            obtain ⟨j, rfl⟩ : ∃ j, k = j + 1 := ⟨k - 1, by omega⟩
            have hjz : (j : Int) < (L.length : Int) := by omega
            simp only [Nat.add_sub_cancel] at p0 p1 p2 p3 p4
            have HF : Hid (fo = true → NrmA (L.take (j + 1 + 1))) := fun h => HST.out.2 ⟨rfl, fun _ => h⟩
            have HF' : Hid (fo = false → ¬ MayA L) := fun h => HBD.out fun h' => by
              have := (HST.out.1 h').2 hk0
              rw [h] at this
              cases this
            have hwj : IntKind.i64.wrap (j : Int) = (j : Int) := by rw [IntKind.wrap_i64]; omega
            have hj0 : (0 : Int) ≤ (j : Int) := by omega
            have hWS : wr.heap.size < (wr.alloc (.cells #[.int .i64 d.a, .int .i64 d.b, .bool d.w, .bool d.x, .bool d.h] 55)).heap.size := by simp
            clear hp HST HBD
            go_wp2
            go_region_held3 (fun w' => w'.cell? ⟨wr.heap.size, 0, none⟩ = some (.int .i64 d.a) ∧ w'.cell? ⟨wr.heap.size, 1, none⟩ = some (.int .i64 d.b) ∧ w'.cell? ⟨wr.heap.size, 2, none⟩ = some (.bool d.w) ∧ w'.cell? ⟨wr.heap.size, 3, none⟩ = some (.bool d.x) ∧ w'.cell? ⟨wr.heap.size, 4, none⟩ = some (.bool d.h) ∧ w'.cell? ⟨g, off + j * 5, none⟩ = some (.int .i64 e.a) ∧ w'.cell? ⟨g, off + j * 5 + 1, none⟩ = some (.int .i64 e.b) ∧ w'.cell? ⟨g, off + j * 5 + 2, none⟩ = some (.bool e.w) ∧ w'.cell? ⟨g, off + j * 5 + 3, none⟩ = some (.bool e.x) ∧ w'.cell? ⟨g, off + j * 5 + 4, none⟩ = some (.bool e.h)) (go_keep) (first | (go_at_call 72; refine (hSp _).mono ?_; rintro e w5 ⟨rfl, hw⟩; obtain rfl := hw.symm; clear hw) | (go_at_call 77; refine (hFo _).mono ?_; rintro e w6 ⟨rfl, hb6⟩; have hx6 := fun o => (bcell hb6).1 wr.heap.size o hWS; have hx7 := fun o => ((bcell hb6).1 g o hg').trans (cell_alloc_old hg2 o _)))
            have HBB : Hid (Below w.heap.size w w6) := HW.out w6 ⟨hb6.os, hb6.tape, hb6.output, hb6.size, hb6.block⟩
            clear hx6 hx7 hb6 hFo hSp c0 c1 c2 c3 c4 p0 p1 p2 p3 p4
            cases fo with
            | true =>
              go_wp2
              go_roundw
              case rel => exact ⟨j + 1 + 1, by omega, by go_num, HF.out (by first | rfl | trivial), HBB⟩
              case measure => simp only [intOf]; omega
            | false =>
              go_wp2
              go_ret
              exact ⟨Or.inr ⟨HF'.out (by first | rfl | trivial), rfl⟩, HBB.out⟩
      · obtain rfl : k = L.length := by omega
        have HY : Hid (MayA L) := ⟨h64, by have := HN.out; rwa [List.take_length] at this⟩
        go_wp2
        go_ret
        exact ⟨Or.inl ⟨HY.out, rfl⟩, HB.out⟩
  · have h64z : 64 < (L.length : Int) := by omega
    have HNO : Hid (¬ MayA L) := fun h => h64 h.1
    go_enter Try.func68, Try.ntmps68
    go_wp2
    go_ret
    exact ⟨Or.inr ⟨HNO.out, rfl⟩, Below.refl _ _⟩
end Go.Proofs.Ytoimmapdkapheaa
