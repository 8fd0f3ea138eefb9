/- AreaRooms, walked. -/
import Derived.Test.YtaeodbeodacmaaaABox
namespace Go.Proofs.Ytaeodbeodacmaaa
open Go.RowKit

theorem find_none {L : List AAr} {p : Int} (hM : MayA L) (h : ownA L p = none) (w : World) (ao : Option Addr) (c : Nat) (hs : Sn rAAr w ao L) (hm : L.length ≤ maxLen) :
    Calls Try.prog 15 #[.slice ao L.length c, .int .i64 p] w fun e w' => e = .returned (.tuple #[.agg #[.int .i64 0, .int .i64 0, .bool false, .bool false, .bool false], .iface 28 (.int .i64 3)]) ∧ Hid (Below w.heap.size w w') := by
  obtain ⟨r, s, q⟩ := find_tell L p
  rcases s with ⟨k, _⟩ | ⟨_, _, rfl⟩ | ⟨_, d, _, _, _, k, _⟩
  · exact absurd hM k
  · exact q w ao c hs hm
  · rw [h] at k; cases k
theorem find_some {L : List AAr} {p : Int} {t : Pg} (hM : MayA L) (h : ownA L p = some t) (w : World) (ao : Option Addr) (c : Nat) (hs : Sn rAAr w ao L) (hm : L.length ≤ maxLen) :
    Calls Try.prog 15 #[.slice ao L.length c, .int .i64 p] w fun e w' => ∃ x y : Int, e = .returned (.tuple #[.agg #[.int .i64 x, .int .i64 y, .bool t.1, .bool t.2.1, .bool t.2.2], .nilIface]) ∧ Hid (x ≤ p ∧ p < y) ∧ Hid (Below w.heap.size w w') := by
  obtain ⟨r, s, q⟩ := find_tell L p
  rcases s with ⟨k, _⟩ | ⟨_, k, _⟩ | ⟨_, d, _, h1, h2, k, rfl⟩
  · exact absurd hM k
  · rw [h] at k; cases k
  · rw [h] at k
    simp only [Option.some.injEq] at k
    subst k
    exact (q w ao c hs hm).mono fun e w' ⟨e1, hb⟩ => ⟨d.a, d.b, e1, ⟨h1, h2⟩, hb⟩
theorem room_back {f : Int → Option Pg} {n z : Int} (h : roomA f n z) (hl : ∀ y, roomA f n y → z ≤ y) (h0 : 0 < z) : ∃ t, f (z - 1) = some t := by
  cases e : f (z - 1) with
  | some t => exact ⟨t, rfl⟩
  | none =>
    have := hl (z - 1) ⟨by omega, by have := h.2.1; omega, fun p h1 h2 => by
      by_cases c : p = z - 1
      · rw [c]; exact e
      · exact h.2.2 p (by omega) (by omega)⟩
    omega
set_option maxRecDepth 100000 in
set_option maxHeartbeats 16000000 in
theorem rooms_any {w : World} {ao : Option Addr} {c : Nat} {L : List AAr} (hs : Sn rAAr w ao L) (hm : L.length ≤ maxLen) (n : Int) :
    Calls Try.prog 11 #[.slice ao L.length c, .int .i64 n] w fun e w' => e = .returned (.bool true) ∧ Below w.heap.size w w' := by
  have hU := up_any w
  have he := eq_code 3 3
  rw [beq_self_eq_true] at he
  have hn3 := neq_err 3
  have HS : Hid (Sn rAAr w ao L) := hs
  have HM : Hid (L.length ≤ maxLen) := hm
  have hm' : L.length ≤ 9223372036854775807 := by unfold maxLen at hm; omega
  clear hs hm
  by_cases h200 : L.length ≤ 200
  · have h200z : ¬ (200 : Int) < (L.length : Int) := by omega
    go_enter Try.func11, Try.ntmps11
    go_wp2_with fail
    refine hU.mono ?_
    rintro e w1 ⟨rfl, hb1⟩
    have HB1 : Hid (Below w.heap.size w w1) := hb1
    have hR := room_any (c := c) (HS.out.below hb1) HM.out n
    clear hU hb1
    go_wp2_with fail
    refine hR.mono ?_
    rintro e w2 ⟨h2, hb2⟩
    have HB2 : Hid (Below w.heap.size w w2) := below_call' HB1.out hb2
    clear hR hb2 HB1
    rcases h2 with ⟨⟨hM, hn⟩, rfl⟩ | ⟨-, rfl⟩
    · have HMY : Hid (MayA L) := hM
      have hsp := rm_spec hM.2 hn
      generalize rmA n 0 L = zz at *
      rcases hsp with ⟨hr, hl⟩ | ⟨rfl, -⟩
      · obtain ⟨z, rfl⟩ : ∃ z : Nat, zz = z := ⟨zz.toNat, by have := hr.1; omega⟩
        rw [rmV_at (by omega)]
        obtain ⟨k, rfl⟩ : ∃ k : Nat, n = k := ⟨n.toNat, by omega⟩
        have hzk : z + k ≤ 4096 := by have := hr.2.1; omega
        have HR : Hid (roomA (ownA L) k z) := hr
        have HL : Hid (∀ y, roomA (ownA L) k y → (z : Int) ≤ y) := hl
        have hw1 : IntKind.i64.wrap ((z : Int) + (k : Int)) = (z : Int) + (k : Int) := by rw [IntKind.wrap_i64]; omega
        have hw2 : IntKind.i64.wrap ((z : Int) + 50) = (z : Int) + 50 := by rw [IntKind.wrap_i64]; omega
        clear hr hl hM
        go_wp2
        go_loopw [8] (fun iv W => ∃ i : Nat, z ≤ i ∧ i ≤ z + k ∧ iv = .int .i64 i ∧ Hid (Below w.heap.size w W)) (fun iv _ => z + k - (intOf iv).toNat)
        case atStart => exact ⟨z, Nat.le_refl _, by omega, rfl, HB2⟩
        case round =>
          obtain ⟨i, hi1, hi2, rfl, HB⟩ := hrel
          clear HB2
          by_cases hik : i < z + k ∧ i < z + 50
          · have hz1 : (i : Int) < (z : Int) + (k : Int) := by omega
            have hz2 : (i : Int) < (z : Int) + 50 := by omega
            have hf := find_none (p := (i : Int)) HMY.out (HR.out.2.2 i (by omega) (by omega)) wr ao c (HS.out.below HB.out) HM.out
            go_wp2_with fail
            refine hf.mono ?_
            rintro e w3 ⟨rfl, hb3⟩
            have HB3 : Hid (∀ o1, Below w.heap.size w (w3.alloc o1)) := fun o1 => below_call' (below_call' HB.out hb3.out) (new_below _ _)
            clear hf hb3 HB
            go_wp2
            go_roundw
            case rel => exact ⟨i + 1, by omega, by omega, by go_num, HB3.out _⟩
            case measure => simp only [intOf]; omega
          · have hx : (¬ (i : Int) < (z : Int) + (k : Int)) ∨ ((i : Int) < (z : Int) + (k : Int) ∧ ¬ (i : Int) < (z : Int) + 50) := by omega
            have hz4 : ¬ (4096 : Int) < (z : Int) + (k : Int) := by omega
            clear hik
            by_cases hz0 : 0 < z
            · have hz0' : (0 : Int) < (z : Int) := by omega
              have hw3 : IntKind.i64.wrap ((z : Int) - 1) = (z : Int) - 1 := by rw [IntKind.wrap_i64]; omega
              obtain ⟨t, ht⟩ := room_back HR.out HL.out hz0'
              have hf := find_some (p := (z : Int) - 1) HMY.out ht wr ao c (HS.out.below HB.out) HM.out
              clear ht
              rcases hx with h1 | ⟨h1, h2⟩
              all_goals
                go_wp2_with fail
                refine hf.mono ?_
                rintro e w3 ⟨x, y, rfl, -, hb3⟩
                have HB3 : Hid (∀ o1, Below w.heap.size w (w3.alloc o1)) := fun o1 => below_call' (below_call' HB.out hb3.out) (new_below _ _)
                clear hf hb3 HB
                go_wp2
                go_ret
                exact ⟨rfl, HB3.out _⟩
            · have hz0' : ¬ (0 : Int) < (z : Int) := by omega
              rcases hx with h1 | ⟨h1, h2⟩
              all_goals
                go_wp2
                go_ret
                exact ⟨rfl, HB.out⟩
      · rw [show rmV (-1) = .tuple #[.int .i64 0, .iface 28 (.int .i64 5)] from rfl]
        clear hM
        go_wp2
        go_ret
        exact ⟨rfl, HB2.out⟩
    · go_wp2
      go_ret
      exact ⟨rfl, HB2.out⟩
  · have h200z : (200 : Int) < (L.length : Int) := by omega
    go_enter Try.func11, Try.ntmps11
    go_wp2_with fail
    refine hU.mono ?_
    rintro e w1 ⟨rfl, hb1⟩
    have HB1 : Hid (Below w.heap.size w w1) := hb1
    clear hU hb1
    go_wp2
    go_ret
    exact ⟨rfl, HB1.out⟩
theorem walk_areaRooms (ao : Option Addr) (len cap : Nat) (D : Nat → AAr) (n : Int) (w : World) (hm : len ≤ maxLen) (hL : Lst AAr.cells AAr.ok 5 w ao len D) (_ : -9223372036854775808 ≤ n ∧ n ≤ 9223372036854775807) :
    Calls Try.prog 11 #[.slice ao len cap, .int .i64 n] w fun e w' => e = .returned (.bool true) ∧ Below w.heap.size w w' := by
  have h := rooms_any (c := cap) hL.sn (by rw [lstN]; exact hm) n
  rwa [lstN] at h
end Go.Proofs.Ytaeodbeodacmaaa
