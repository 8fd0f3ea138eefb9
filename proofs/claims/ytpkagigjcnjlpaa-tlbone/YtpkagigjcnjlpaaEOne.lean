/- TlbOne: the walk. -/
import Derived.Test.YtpkagigjcnjlpaaEFills
namespace Go.Proofs.Ytpkagigjcnjlpaa
open Go.RowKit

theorem fK_mono (l : List Ent) (x : Ent) : fK l true x = true := by
  unfold fK fillK
  cases mayB x <;> cases hasB l x <;> simp
theorem without_zero (l : List Ent) : without l 0 = l.drop 1 := by simp [without]
def NC (l : List Ent) : Prop := l.Pairwise fun a b => clashB a b = false
theorem NC.cut {l : List Ent} (h : NC l) : NC (cut64 l) := by
  unfold cut64
  split
  · rw [without_zero]
    exact h.sublist (List.drop_sublist 1 l)
  · exact h
theorem NC.snoc {l : List Ent} {x : Ent} (h : NC l) (hx : clashes l x = false) : NC (l ++ [x]) := by
  unfold NC
  rw [List.pairwise_append]
  refine ⟨h, List.pairwise_singleton _ _, fun a ha b hb => ?_⟩
  simp at hb
  subst hb
  unfold clashes at hx
  rw [List.any_eq_false] at hx
  simpa using hx a ha
theorem fN_nc (D : Nat → Ent) : ∀ n, (fN D n).2 = false → NC (fN D n).1
  | 0, _ => List.Pairwise.nil
  | n + 1, h => by
    have h' : fK (fN D n).1 (fN D n).2 (D n) = false := h
    show NC (fL (fN D n).1 (D n))
    have hk : (fN D n).2 = false := by
      cases e : (fN D n).2
      · rfl
      · rw [e, fK_mono] at h'
        simp at h'
    have ih := fN_nc D n hk
    rw [hk] at h'
    unfold fL
    unfold fK at h'
    split
    · rename_i hm
      rw [if_pos hm] at h'
      unfold fillL
      unfold fillK at h'
      split
      · exact ih
      · rename_i hh
        rw [if_neg hh] at h'
        exact ih.cut.snoc (by simpa using h')
    · exact ih
theorem NC.at {l : List Ent} (h : NC l) {i k : Nat} (hk : k < i) (hi : i < l.length) : clashB (l.getD i Ent.zero) (l.getD k Ent.zero) = false := by
  have := List.pairwise_iff_getElem.1 h k i (by omega) hi hk
  rw [clash_comm, List.getD_eq_getElem?_getD, List.getD_eq_getElem?_getD, List.getElem?_eq_getElem hi, List.getElem?_eq_getElem (by omega)]
  exact this
theorem page_gone (l : List Ent) (asid page : Int) : fndE (stay (pgB asid page) l) asid page = Ent.zero ∧ fndB (stay (pgB asid page) l) asid page = false := by
  apply fnd_none
  intro x hx
  have := (List.mem_filter.1 hx).2
  simpa [pgB] using this

set_option maxRecDepth 100000 in
set_option maxHeartbeats 8000000 in
theorem walk_tlbOne (ao : Option Addr) (len cap : Nat) (D : Nat → Ent) (asid page : Int) (w : World) (hm : len ≤ maxLen) (hL : Lst Ent.cells Ent.ok 6 w ao len D) (_ha : -9223372036854775808 ≤ asid ∧ asid ≤ 9223372036854775807) (_hp : -9223372036854775808 ≤ page ∧ page ≤ 9223372036854775807) :
    Calls Try.prog 7 #[.slice ao len cap, .int .i64 asid, .int .i64 page] w fun e w' => e = .returned (.bool true) ∧ Below w.heap.size w w' := by
  have hm' : len ≤ 9223372036854775807 := by unfold maxLen at hm; omega
  have HLst : Hid (Lst Ent.cells Ent.ok 6 w ao len D) := hL
  clear hL hm
  go_enter Try.func7, Try.ntmps7
  go_wp2_with fail
  refine (up_any _).mono ?_
  rintro e w1 ⟨rfl, L1⟩
  go_wp2_with fail
  refine (new_any _).mono ?_
  rintro e w2 ⟨rfl, b2, hb⟩
  have L2 := below_call' L1 hb
  have H2 : Hid (Buf w.heap.size w2 w1.heap.size (.slice none 0 0) [] false ∧ Below w.heap.size w w2) := ⟨b2.lower L1.size, L2⟩
  clear b2 hb L2 L1
  generalize w1.heap.size = p at *
  go_wp2_with fail
  go_loopw [9, 10] (fun kb i W => ∃ j : Nat, j ≤ len ∧ j ≤ 80 ∧ i = .int .i64 j ∧ kb = .bool (fN D j).2 ∧ Hid (∃ v, Buf w.heap.size W p v (fN D j).1 (fN D j).2 ∧ Below w.heap.size w W)) (fun _ i _ => len - (intOf i).toNat)
  case atStart => exact ⟨0, Nat.zero_le _, by omega, rfl, rfl, _, H2.out⟩
  case round =>
    obtain ⟨j, hj, hj8, rfl, rfl, HB⟩ := hrel
    clear H2
    by_cases hlt : j < len ∧ j < 80
    · obtain ⟨h1, h2⟩ := hlt
      have h1z : (j : Int) < (len : Int) := by omega
      have h2z : (j : Int) < 80 := by omega
      obtain ⟨v, b, L⟩ := HB.out
      obtain ⟨g, off, rfl, hok, c0, c1, c2, c3, c4, c5⟩ := lst_ent HLst.out L h1
      have hF := fill_any b L.size (D j) hok
      have HS : Hid (Buf w.heap.size wr p v (fN D j).1 (fN D j).2 ∧ Below w.heap.size w wr) := ⟨b, L⟩
      clear b L HB
      unfold ev at hF
      have HK : Hid ((fN D j).2 = true → (fN D (j + 1)).2 = true) := fun e => by
        show fK _ _ _ = true
        rw [e]
        exact fK_mono _ _
      cases hk : (fN D j).2
      · go_wp2_with fail
        refine hF.mono ?_
        rintro e w3 ⟨rfl, v3, b3, S3⟩
        have hB := broken_any b3
        have H3 : Hid (∃ v, Buf w.heap.size w3 p v (fN D (j + 1)).1 (fN D (j + 1)).2 ∧ Below w.heap.size w w3) := ⟨v3, b3, HS.out.2.trans (S3.below HS.out.1 HS.out.2.size)⟩
        clear b3 S3 HS hF c0 c1 c2 c3 c4 c5 HK
        have HEQ : Hid (fK (fN D j).1 (fN D j).2 (D j) = (fN D (j + 1)).2) := rfl
        rw [HEQ.out] at hB
        generalize (fN D (j + 1)).2 = kk at *
        go_wp2_with (go_at_call 28; refine hB.mono ?_; rintro e w4 ⟨rfl, hw⟩; obtain rfl := hw.symm; clear hw)
        go_roundw
        case rel => exact ⟨j + 1, by omega, by omega, by go_num, by rw [← HEQ.out]; rfl, by
          have h := H3.out
          rw [← HEQ.out] at h
          exact h⟩
        case measure => simp [intOf]; omega
      · have HK' := HK.out hk
        go_wp2_with fail
        refine hF.mono ?_
        rintro e w3 ⟨rfl, v3, b3, S3⟩
        have hB := broken_any b3
        rw [show fK (fN D j).1 (fN D j).2 (D j) = true from HK'] at hB
        have H3 : Hid (∃ v, Buf w.heap.size w3 p v (fN D (j + 1)).1 (fN D (j + 1)).2 ∧ Below w.heap.size w w3) := ⟨v3, b3, HS.out.2.trans (S3.below HS.out.1 HS.out.2.size)⟩
        have HK2 : Hid ((fN D (j + 1)).2 = true) := HK'
        clear b3 S3 HS hF c0 c1 c2 c3 c4 c5 HK HK' hk
        go_wp2_with (go_at_call 28; refine hB.mono ?_; rintro e w4 ⟨rfl, hw⟩; obtain rfl := hw.symm; clear hw)
        go_roundw
        case rel => exact ⟨j + 1, by omega, by omega, by go_num, by rw [HK2.out], H3⟩
        case measure => simp [intOf]; omega
    · have hx : (¬ (j : Int) < (len : Int)) ∨ ((j : Int) < (len : Int) ∧ ¬ (j : Int) < 80) := by omega
      have hnc := fN_nc D j
      clear hlt hj hj8
      obtain ⟨v, b, L⟩ := HB.out
      clear HB
      generalize (fN D j).1 = l at *
      generalize (fN D j).2 = k at *
      have HNC : Hid (k = false → NC l) := hnc
      have hE := entries_any b
      have HS : Hid (Buf w.heap.size wr p v l k ∧ Below w.heap.size w wr) := ⟨b, L⟩
      have h64 := b.len
      clear b L HLst hnc
      rcases hx with h1 | ⟨h1, h2⟩
      all_goals
        go_wp2_with fail
        refine hE.mono ?_
        rintro e w3 ⟨v1, rfl, O1, hb⟩
        obtain ⟨b, L⟩ := HS.out
        have b3 := b.below hb
        have L3 := below_call L L.size hb
        obtain ⟨a1, c1, rfl⟩ := O1.form
        have H3 : Hid (Buf w.heap.size w3 p v l k ∧ Below w.heap.size w w3 ∧ Own wr.heap.size w3 (.slice a1 l.length c1) l) := ⟨b3, L3, O1⟩
        clear b L b3 L3 O1 HS hb hE
        go_wp2_with fail
        go_loopw [12, 13, 14] (fun i _ _ W => ∃ m : Nat, m ≤ l.length ∧ i = .int .i64 m ∧ Hid (Below w3.heap.size w3 W)) (fun i _ _ _ => l.length - (intOf i).toNat)
        case atStart => exact ⟨0, Nat.zero_le _, rfl, Below.refl _ _⟩
        case round =>
          obtain ⟨m, hm, rfl, HI⟩ := hrel
          by_cases hlt : m < l.length ∧ k = false
          · obtain ⟨hlt, rfl⟩ := hlt
            have hltz : (m : Int) < (l.length : Int) := by omega
            go_wp2_with fail
            go_loopw [13, 14] (fun i _ W => ∃ n : Nat, n ≤ m ∧ i = .int .i64 n ∧ Hid (Below w3.heap.size w3 W)) (fun i _ _ => m - (intOf i).toNat)
            case atStart => exact ⟨0, Nat.zero_le _, rfl, HI⟩
            case round =>
              obtain ⟨n, hn, rfl, HJ⟩ := hrel
              by_cases hlt2 : n < m
              · have hltz2 : (n : Int) < (m : Int) := by omega
                have hltz3 : (n : Int) < (l.length : Int) := by omega
                obtain ⟨b3, L3, O1⟩ := H3.out
                obtain ⟨g, rfl, -, x0, x1, x2, x3, x4, x5⟩ := (O1.below HJ.out).at hlt
                obtain ⟨g', e', -, y0, y1, y2, y3, y4, y5⟩ := (O1.below HJ.out).at (show n < l.length by omega)
                cases e'
                have hg := (own_lt (O1.below HJ.out) g rfl)
                have hC := Clash_any (l.getD m Ent.zero) (l.getD n Ent.zero)
                rw [(HNC.out (by first | trivial | rfl)).at hlt2 hlt, Bool.and_false] at hC
                generalize l.getD m Ent.zero = x at *
                generalize l.getD n Ent.zero = y at *
                clear b3 L3 O1
                unfold ev at hC
                go_wp2_with fail
                go_region_held3 (fun w' => w'.cell? ⟨g, m * 6, none⟩ = some (.int .i64 x.asid) ∧ w'.cell? ⟨g, m * 6 + 1, none⟩ = some (.int .i64 x.first) ∧ w'.cell? ⟨g, m * 6 + 2, none⟩ = some (.int .i64 x.order) ∧ w'.cell? ⟨g, m * 6 + 3, none⟩ = some (.int .i64 x.base) ∧ w'.cell? ⟨g, m * 6 + 4, none⟩ = some (.bool x.writ) ∧ w'.cell? ⟨g, m * 6 + 5, none⟩ = some (.bool x.exe) ∧ w'.cell? ⟨g, n * 6, none⟩ = some (.int .i64 y.asid) ∧ w'.cell? ⟨g, n * 6 + 1, none⟩ = some (.int .i64 y.first) ∧ w'.cell? ⟨g, n * 6 + 2, none⟩ = some (.int .i64 y.order) ∧ w'.cell? ⟨g, n * 6 + 3, none⟩ = some (.int .i64 y.base) ∧ w'.cell? ⟨g, n * 6 + 4, none⟩ = some (.bool y.writ) ∧ w'.cell? ⟨g, n * 6 + 5, none⟩ = some (.bool y.exe)) (go_keep) (first | (go_at_call 14; refine (hC _).mono ?_; rintro e w4 ⟨rfl, hb4⟩; have hc4 : ∀ o, w4.cell? ⟨g, o, none⟩ = wr.cell? ⟨g, o, none⟩ := fun o => (bcell hb4).1 _ _ hg))
                have H6 : Hid (Below w3.heap.size w3 w4) := HJ.out.trans ((show Below wr.heap.size wr w4 from ⟨hb4.os, hb4.tape, hb4.output, hb4.size, hb4.block⟩).mono HJ.out.size)
                clear hb4 hc4 x0 x1 x2 x3 x4 x5 y0 y1 y2 y3 y4 y5 hC
                go_wp2
                go_roundw
                case rel => exact ⟨n + 1, by omega, by go_num, H6⟩
                case measure => simp [intOf]; omega
              · obtain rfl : n = m := by omega
                have hltz2 : ¬ (n : Int) < (n : Int) := by omega
                go_wp2
                go_roundw
                case rel => exact ⟨n + 1, by omega, by go_num, HJ⟩
                case measure => simp [intOf]; omega
          · have hx : (¬ (m : Int) < (l.length : Int)) ∨ ((m : Int) < (l.length : Int) ∧ k = true) := by
              by_cases h : m < l.length
              · right
                refine ⟨by omega, ?_⟩
                cases k
                · exact absurd ⟨h, rfl⟩ hlt
                · rfl
              · left
                omega
            obtain ⟨b3, L3, -⟩ := H3.out
            have b4 := b3.below HI.out
            have L4 := below_call L3 L3.size HI.out
            have hP := page_any b4 asid page
            have HS : Hid (Buf w.heap.size wr p v l k ∧ Below w.heap.size w wr) := ⟨b4, L4⟩
            clear b3 L3 b4 L4 H3 HI hlt HNC
            rcases hx with g1 | ⟨g1, rfl⟩
            all_goals
              go_wp2_with fail
              refine hP.mono ?_
              rintro e w5 ⟨rfl, v5, b5, S5⟩
              have L5 := HS.out.2.trans (S5.below HS.out.1 HS.out.2.size)
              have hF := find_any b5 asid page
              rw [(page_gone l asid page).1, (page_gone l asid page).2] at hF
              have H5 : Hid (_ ∧ Below w.heap.size w w5) := And.intro b5 L5
              clear hP HS b5 S5 L5
              unfold ev Ent.zero at hF
              simp only at hF
              go_wp2_with fail
              refine hF.mono ?_
              rintro e w6 ⟨rfl, hb⟩
              have hB := broken_any ((H5.out.1.below hb).below ((Below.refl _ _).alloc (Nat.le_refl _) (.cells (ecells Ent.zero) 26)))
              have L6 := below_call H5.out.2 H5.out.2.size hb
              have H6 : Hid (Below w.heap.size w w6) := L6
              clear hF H5 hb L6
              unfold ecells Ent.zero at hB
              simp only at hB
              go_wp2_with (go_at_call 28; refine hB.mono ?_; rintro e w4 ⟨rfl, hw⟩; obtain rfl := hw.symm; clear hw)
              go_ret
              exact ⟨ret_bool (by simp), H6.out.alloc H6.out.size _⟩
end Go.Proofs.Ytpkagigjcnjlpaa
