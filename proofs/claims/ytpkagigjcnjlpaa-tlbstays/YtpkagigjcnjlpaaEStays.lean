/- TlbStays: the walk. -/
import Derived.Test.YtpkagigjcnjlpaaEFills
namespace Go.Proofs.Ytpkagigjcnjlpaa
open Go.RowKit

set_option maxRecDepth 100000 in
set_option maxHeartbeats 4000000 in
theorem walk_tlbStays (ao : Option Addr) (len cap : Nat) (D : Nat → Ent) (w : World) (hm : len ≤ maxLen) (hL : Lst Ent.cells Ent.ok 6 w ao len D) :
    Calls Try.prog 8 #[.slice ao len cap] w fun e w' => e = .returned (.bool true) ∧ Below w.heap.size w w' := by
  have hm' : len ≤ 9223372036854775807 := by unfold maxLen at hm; omega
  have HLst : Hid (Lst Ent.cells Ent.ok 6 w ao len D) := hL
  clear hL hm
  go_enter Try.func8, Try.ntmps8
  go_wp2_with fail
  refine (up_any _).mono ?_
  rintro e w1 ⟨rfl, L1⟩
  go_wp2_with fail
  refine (new_any _).mono ?_
  rintro e w2 ⟨rfl, b2, hb⟩
  have L2 := below_call' L1 hb
  have H2 : Hid (Buf w.heap.size w2 w1.heap.size (.slice none 0 0) [] false ∧ Below w.heap.size w w2) := ⟨b2.lower L1.size, L2⟩
  clear b2 hb L2 L1
  generalize w1.heap.size = p at *
  go_wp2_with fail
  go_loopw [5] (fun i W => ∃ j : Nat, j ≤ len ∧ j ≤ 80 ∧ i = .int .i64 j ∧ Hid (∃ v, Buf w.heap.size W p v (fN D j).1 (fN D j).2 ∧ Below w.heap.size w W)) (fun i _ => len - (intOf i).toNat)
  case atStart => exact ⟨0, Nat.zero_le _, by omega, rfl, _, H2.out⟩
  case round =>
    obtain ⟨j, hj, hj8, rfl, HB⟩ := hrel
    clear H2
    by_cases hlt : j < len ∧ j < 80
    · obtain ⟨h1, h2⟩ := hlt
      have h1z : (j : Int) < (len : Int) := by omega
      have h2z : (j : Int) < 80 := by omega
      obtain ⟨v, b, L⟩ := HB.out
      obtain ⟨g, off, rfl, hok, c0, c1, c2, c3, c4, c5⟩ := lst_ent HLst.out L h1
      have hF := fill_any b L.size (D j) hok
      have HS : Hid (Buf w.heap.size wr p v (fN D j).1 (fN D j).2 ∧ Below w.heap.size w wr) := ⟨b, L⟩
      clear b L HB
      unfold ev at hF
      go_wp2_with fail
      refine hF.mono ?_
      rintro e w3 ⟨rfl, v3, b3, S3⟩
      have H3 : Hid (∃ v, Buf w.heap.size w3 p v (fN D (j + 1)).1 (fN D (j + 1)).2 ∧ Below w.heap.size w w3) := ⟨v3, b3, HS.out.2.trans (S3.below HS.out.1 HS.out.2.size)⟩
      clear b3 S3 HS hF c0 c1 c2 c3 c4 c5
      go_wp2
      go_roundw
      case rel => exact ⟨j + 1, by omega, by omega, by go_num, H3⟩
      case measure => simp [intOf]; omega
    · have hx : (¬ (j : Int) < (len : Int)) ∨ ((j : Int) < (len : Int) ∧ ¬ (j : Int) < 80) := by omega
      clear hlt hj hj8
      obtain ⟨v, b, L⟩ := HB.out
      clear HB
      generalize (fN D j).1 = l at *
      generalize (fN D j).2 = k at *
      have hE := entries_any b
      have HS : Hid (Buf w.heap.size wr p v l k ∧ Below w.heap.size w wr) := ⟨b, L⟩
      have h64 := b.len
      clear b L HLst
      rcases hx with h1 | ⟨h1, h2⟩
      all_goals
        go_wp2_with fail
        refine hE.mono ?_
        rintro e w3 ⟨v1, rfl, O1, hb⟩
        obtain ⟨b, L⟩ := HS.out
        have b3 := b.below hb
        have L3 := below_call L L.size hb
        have hap := O1.apart b (Nat.le_refl _)
        obtain ⟨a1, c1, rfl⟩ := O1.form
        have H3 : Hid (Buf w.heap.size w3 p v l k ∧ Below w.heap.size w w3 ∧ (l.length = 0 ∨ ∃ g, a1 = some ⟨g, 0, none⟩ ∧ (g ≠ p ∧ some g ≠ v.ownBlock) ∧ w.heap.size ≤ g ∧ FR w3 g l.length)) := by
          refine ⟨b3, L3, ?_⟩
          rcases O1.fr with rfl | ⟨g, c, e, hB, hfr⟩
          · exact Or.inl rfl
          · cases e
            exact Or.inr ⟨g, rfl, hap g rfl, by have := L.size; omega, hfr⟩
        clear b L b3 L3 hap O1 HS hb hE
        go_wp2_with fail
        go_loopw [8] (fun i W => ∃ m : Nat, m ≤ l.length ∧ i = .int .i64 m ∧ Hid (Buf w.heap.size W p v l k ∧ Below w.heap.size w W ∧ (l.length = 0 ∨ ∃ g, a1 = some ⟨g, 0, none⟩ ∧ (g ≠ p ∧ some g ≠ v.ownBlock) ∧ w.heap.size ≤ g ∧ FR W g l.length))) (fun i _ => l.length - (intOf i).toNat)
        case atStart => exact ⟨0, Nat.zero_le _, rfl, H3⟩
        case round =>
          obtain ⟨m, hm, rfl, HI⟩ := hrel
          clear H3
          by_cases hlt : m < l.length
          · have hltz : (m : Int) < (l.length : Int) := by omega
            obtain ⟨b, L, hr⟩ := HI.out
            rcases hr with h0 | ⟨g, rfl, hap, hgB, hfr⟩
            · omega
            obtain ⟨u0, q0⟩ := hfr.cell (m * 6) (by omega)
            obtain ⟨u1, q1⟩ := hfr.cell (m * 6 + 1) (by omega)
            obtain ⟨u2, q2⟩ := hfr.cell (m * 6 + 2) (by omega)
            obtain ⟨u3, q3⟩ := hfr.cell (m * 6 + 3) (by omega)
            obtain ⟨z4, q4⟩ := hfr.cell (m * 6 + 4) (by omega)
            obtain ⟨z5, q5⟩ := hfr.cell (m * 6 + 5) (by omega)
            have hz := hfr.frozen
            have HH : Hid (Buf w.heap.size wr p v l k ∧ Below w.heap.size w wr ∧ FR wr g l.length) := ⟨b, L, hfr⟩
            clear b L hfr HI
            go_wp2
            obtain ⟨b, L, hfr⟩ := HH.out
            have hg := grown_setCells [.int .i64 9, .int .i64 9, .int .i64 0, .int .i64 0, .bool false, .bool false] wr g (m * 6)
            have hX : Hid (Buf w.heap.size (wr.setCells g (m * 6) [.int .i64 9, .int .i64 9, .int .i64 0, .int .i64 0, .bool false, .bool false]) p v l k ∧ Below w.heap.size w (wr.setCells g (m * 6) [.int .i64 9, .int .i64 9, .int .i64 0, .int .i64 0, .bool false, .bool false]) ∧ (l.length = 0 ∨ ∃ g', some (⟨g, 0, none⟩ : Addr) = some ⟨g', 0, none⟩ ∧ (g' ≠ p ∧ some g' ≠ v.ownBlock) ∧ w.heap.size ≤ g' ∧ FR (wr.setCells g (m * 6) [.int .i64 9, .int .i64 9, .int .i64 0, .int .i64 0, .bool false, .bool false]) g' l.length)) :=
              ⟨b.kept hg hap, below_row L L.size hg hgB, Or.inr ⟨g, rfl, hap, hgB, hfr.sets (m * 6) [.int .i64 9, .int .i64 9, .int .i64 0, .int .i64 0, .bool false, .bool false]⟩⟩
            clear b L hfr hg
            go_roundw
            case rel => exact ⟨m + 1, by omega, by go_num, hX⟩
            case measure => simp [intOf]; omega
          · obtain rfl : m = l.length := by omega
            have hltz : ¬ (l.length : Int) < (l.length : Int) := by omega
            obtain ⟨b, L, -⟩ := HI.out
            have hE := entries_any b
            have HS : Hid (Buf w.heap.size wr p v l k ∧ Below w.heap.size w wr) := ⟨b, L⟩
            clear b L HI
            go_wp2_with fail
            refine hE.mono ?_
            rintro e w4 ⟨v4, rfl, O4, hb⟩
            obtain ⟨b, L⟩ := HS.out
            have b4 := b.below hb
            have L4 := below_call L L.size hb
            have hap := O4.apart b (Nat.le_refl _)
            have hSp := space_any b4 0
            obtain ⟨a4, c4, rfl⟩ := O4.form
            have H4 : Hid (Buf w.heap.size w4 p v l k ∧ Below w.heap.size w w4 ∧ Own wr.heap.size w4 (.slice a4 l.length c4) l ∧ (∀ g, (Value.slice a4 l.length c4).ownBlock = some g → g ≠ p ∧ some g ≠ v.ownBlock)) := ⟨b4, L4, O4, hap⟩
            clear b L b4 L4 hap O4 HS hb hE
            go_wp2_with fail
            refine hSp.mono ?_
            rintro e w5 ⟨rfl, v5, b5, S5⟩
            obtain ⟨b4, L4, O4, hap⟩ := H4.out
            have O5 := O4.step S5 hap
            have L5 := L4.trans (S5.below b4 L4.size)
            have hmay := b4.may
            have H5 : Hid (Below w.heap.size w w5 ∧ Own wr.heap.size w5 (.slice a4 l.length c4) l ∧ (∀ x ∈ l, mayB x = true ∧ x.base ≤ 9223372036854775807)) := ⟨L5, O5, hmay⟩
            clear b5 S5 b4 L4 O4 hap O5 L5 hmay H4 hSp
            go_wp2_with fail
            go_loopw [10] (fun i W => ∃ n : Nat, n ≤ l.length ∧ i = .int .i64 n ∧ Hid (Below w5.heap.size w5 W)) (fun i _ => l.length - (intOf i).toNat)
            case atStart => exact ⟨0, Nat.zero_le _, rfl, Below.refl _ _⟩
            case round =>
              obtain ⟨n, hn, rfl, HI⟩ := hrel
              obtain ⟨L5, O5, hmay⟩ := H5.out
              by_cases hlt2 : n < l.length
              · have hltz2 : (n : Int) < (l.length : Int) := by omega
                obtain ⟨g, rfl, -, x0, x1, x2, x3, x4, x5⟩ := (O5.below HI.out).at hlt2
                have hMy := May_any (l.getD n Ent.zero)
                rw [(hmay _ (mem_getD l n hlt2)).1] at hMy
                generalize l.getD n Ent.zero = y at *
                unfold ev at hMy
                clear O5 L5 hmay
                go_wp2_with fail
                refine (hMy _).mono ?_
                rintro e w6 ⟨rfl, hb⟩
                have H6 : Hid (Below w5.heap.size w5 w6) := below_call HI.out HI.out.size hb
                clear hb x0 x1 x2 x3 x4 x5 hMy
                go_wp2
                go_roundw
                case rel => exact ⟨n + 1, by omega, by go_num, H6⟩
                case measure => simp [intOf]; omega
              · obtain rfl : n = l.length := by omega
                have hltz2 : ¬ (l.length : Int) < (l.length : Int) := by omega
                clear O5 hmay
                go_wp2
                go_ret
                exact ⟨rfl, below_call L5 L5.size HI.out⟩
end Go.Proofs.Ytpkagigjcnjlpaa
