/- BbmKeeps: the walk. -/
import Derived.Test.YtjijgpdfoilijaaBPure2
import Derived.Test.YtjijgpdfoilijaaZWords
namespace Go.Proofs.Ytjijgpdfoilijaa
open Go.RowKit

/-- What is open while k of the pages are told. -/
def kV (now : Nat) (a lvl t p f : Int) (k : Nat) : View := if validB now = true ∧ k < manyN lvl then partV a t p f now (tkB (manyN lvl) (manyN lvl) k) else []
theorem kV_write {now : Nat} {a lvl t p f : Int} (hl : lvlB lvl = true) : brokeV false [] lvl t p now 0 = false ∧ writeV [] a lvl t p f now 0 = kV now a lvl t p f 0 := by
  have h1 := (many_bd hl).1
  cases hv : validB now with
  | true =>
    refine ⟨(v_open a lvl t p f hv).1, ?_⟩
    rw [(v_open a lvl t p f hv).2, kV, if_pos ⟨hv, by omega⟩, part_open a lvl t p f now (manyN lvl)]
  | false =>
    refine ⟨(v_even false a lvl t p f hv []).1, ?_⟩
    rw [(v_even false a lvl t p f hv []).2, kV, if_neg (by simp [hv])]
theorem kV_space (now : Nat) (a lvl t p f : Int) (k : Nat) : spaceV a (kV now a lvl t p f k) = [] := by
  unfold kV
  split
  · simp [spaceV, partV]
  · rfl
theorem kV_told {now : Nat} {a lvl t p f : Int} {k : Nat} (hk : k < manyN lvl) : toldV a (f + (k : Int)) (kV now a lvl t p f k) = kV now a lvl t p f (k + 1) := by
  cases hv : validB now with
  | true =>
    rw [kV, if_pos ⟨hv, hk⟩]
    by_cases he : k + 1 = manyN lvl
    · rw [v_tellsEnd a t p f now he (Nat.le_refl _), kV, if_neg (by omega)]
    · rw [v_tells a t p f now hk (by omega) ⟨k + 1, by omega, Or.inl (Nat.le_refl _)⟩, kV, if_pos ⟨hv, by omega⟩]
  | false =>
    rw [kV, if_neg (by simp [hv]), kV, if_neg (by simp [hv])]
    rfl
theorem kV_end (now : Nat) (a lvl t p f : Int) : kV now a lvl t p f (manyN lvl) = [] := by
  rw [kV, if_neg (by omega)]

set_option maxRecDepth 100000 in
set_option maxHeartbeats 4000000 in
theorem keeps_no (asid lvl t p f : Int) (ao : Option Addr) (len cap : Nat) (sp : Bool) (w : World) (h : mayW asid lvl t p f = false ∨ (mayW asid lvl t p f = true ∧ lvl = 0)) :
    Calls Try.prog 3 #[.int .i64 asid, .int .i64 lvl, .int .i64 t, .int .i64 p, .int .i64 f, .slice ao len cap, .bool sp] w fun e w' => e = .returned (.bool true) ∧ Below w.heap.size w w' := by
  have hM := fun w => refMayW_any asid lvl t p f w
  rcases h with hm | ⟨hm, h⟩
  · rw [hm] at hM
    go_enter Try.func3, Try.ntmps3
    go_wp2_with fail
    refine (upW_any _).mono ?_
    rintro e w1 ⟨rfl, hb1⟩
    go_wp2_with fail
    refine (oneNew hb1).mono ?_
    rintro e w2 ⟨c, m, rfl, h2⟩
    have G2 : Hid (One w w2 c m false []) := h2
    clear h2 hb1
    go_wp2_with fail
    refine (hM _).mono ?_
    rintro e w4 ⟨rfl, hw⟩
    obtain rfl := hw.symm
    clear hw
    go_wp2
    go_ret
    exact ⟨rfl, G2.out.frame⟩
  · rw [hm] at hM
    subst h
    go_enter Try.func3, Try.ntmps3
    go_wp2_with fail
    refine (upW_any _).mono ?_
    rintro e w1 ⟨rfl, hb1⟩
    go_wp2_with fail
    refine (oneNew hb1).mono ?_
    rintro e w2 ⟨c, m, rfl, h2⟩
    have G2 : Hid (One w w2 c m false []) := h2
    clear h2 hb1
    go_wp2_with fail
    refine (hM _).mono ?_
    rintro e w4 ⟨rfl, hw⟩
    obtain rfl := hw.symm
    clear hw
    go_wp2
    go_ret
    exact ⟨rfl, G2.out.frame⟩

set_option maxRecDepth 100000 in
set_option maxHeartbeats 8000000 in
theorem keeps_yes (asid lvl t p f : Int) (ao : Option Addr) (len cap : Nat) (D : Nat → Int) (sp : Bool) (w : World) (hlen : len ≤ maxLen) (hL : Lst wcells wok 1 w ao len D) (hm : mayW asid lvl t p f = true) (h1 : lvl ≠ 0) :
    Calls Try.prog 3 #[.int .i64 asid, .int .i64 lvl, .int .i64 t, .int .i64 p, .int .i64 f, .slice ao len cap, .bool sp] w fun e w' => e = .returned (.bool true) ∧ Below w.heap.size w w' := by
  have hM := fun w => refMayW_any asid lvl t p f w
  rw [hm] at hM
  obtain ⟨-, -, hlv, a0, a1, t0, t1, p0, p1, f0, f1⟩ := mayW_true hm
  have HW1 : Hid (∀ (now : Nat), now < 18446744073709551616 → ∀ (w1 : World) (c m : Nat), One w w1 c m false [] → Calls Try.prog 9 #[.pointer (some ⟨c, 0, none⟩), .int .i64 asid, .int .i64 lvl, .int .i64 t, .int .i64 p, .int .i64 f, .int .u64 now, .int .u64 0] w1 fun e w' => e = .returned .nilIface ∧ One w w' c m false (kV now asid lvl t p f 0)) := by
    intro now hn w1 c m h
    have := h.op fun F hF => vWrite hF asid lvl t p f now 0 hn (by decide) hm
    rwa [(kV_write (a := asid) (f := f) hlv).1, (kV_write (a := asid) (f := f) hlv).2] at this
  have HS : Hid (∀ (now : Nat) (w1 : World) (c m : Nat), One w w1 c m false (kV now asid lvl t p f 0) → Calls Try.prog 10 #[.pointer (some ⟨c, 0, none⟩), .int .i64 asid] w1 fun e w' => e = .returned (.tuple #[]) ∧ One w w' c m false []) := by
    intro now w1 c m h
    have := h.op fun F hF => vSpace hF asid
    rwa [kV_space] at this
  have HT : Hid (∀ (now k : Nat), k < manyN lvl → ∀ (w1 : World) (c m : Nat), One w w1 c m false (kV now asid lvl t p f k) → Calls Try.prog 12 #[.pointer (some ⟨c, 0, none⟩), .int .i64 asid, .int .i64 (f + (k : Int))] w1 fun e w' => e = .returned (.tuple #[]) ∧ One w w' c m false (kV now asid lvl t p f (k + 1))) := by
    intro now k hk w1 c m h
    have := h.op fun F hF => vTold hF asid (f + (k : Int))
    rwa [kV_told hk] at this
  have HW2 : Hid (∀ (y : Nat), y < 18446744073709551616 → ∀ (w1 : World) (c m : Nat), One w w1 c m false [] → Calls Try.prog 9 #[.pointer (some ⟨c, 0, none⟩), .int .i64 asid, .int .i64 lvl, .int .i64 t, .int .i64 p, .int .i64 f, .int .u64 0, .int .u64 y] w1 fun e w' => e = .returned .nilIface ∧ One w w' c m false []) := by
    intro y hy w1 c m h
    have := h.op fun F hF => vWrite hF asid lvl t p f 0 y (by decide) hy hm
    rwa [(v_none asid lvl t p f y).1, (v_none asid lvl t p f y).2] at this
  have HE : Hid (∀ now, kV now asid lvl t p f (manyN lvl) = []) := fun now => kV_end now asid lvl t p f
  have hmany := fun w => refMany_any lvl w hlv
  have hmb := (many_bd hlv).2
  generalize manyN lvl = n at *
  have k1 : (lvl == 0) = false := by simpa using h1
  have HFB : Hid (0 ≤ f ∧ f < 4096) := ⟨f0, f1⟩
  have HL : Hid (Lst wcells wok 1 w ao len D) := hL
  have hlen' : (len : Int) ≤ 9223372036854775807 := by unfold maxLen at hlen; omega
  clear h1 hm a0 a1 t0 t1 p0 p1 f0 f1 hlv hL hlen
  cases sp with
  | true =>
    go_enter Try.func3, Try.ntmps3
    go_wp2_with fail
    refine (upW_any _).mono ?_
    rintro e w1 ⟨rfl, hb1⟩
    go_wp2_with fail
    refine (oneNew hb1).mono ?_
    rintro e w2 ⟨c, m, rfl, h2⟩
    have G2 : Hid (One w w2 c m false []) := h2
    clear h2 hb1
    go_wp2_with fail
    refine (hM _).mono ?_
    rintro e w4 ⟨rfl, hw⟩
    obtain rfl := hw.symm
    clear hw
    go_wp2_with fail
    go_loopw [18, 19] (fun nw i W => ∃ N k : Nat, nw = .int .u64 N ∧ N < 18446744073709551616 ∧ k ≤ len ∧ k ≤ 12 ∧ i = .int .i64 k ∧ Hid (One w W c m false [])) (fun _ i _ => 12 - (intOf i).toNat)
    case atStart => exact ⟨0, 0, rfl, by decide, Nat.zero_le _, Nat.zero_le _, rfl, G2.out⟩
    case round =>
      obtain ⟨N, k, rfl, hN, hk, hk12, rfl, G3⟩ := hrel
      clear G2
      by_cases hkl : k < len
      · have hklz : (k : Int) < (len : Int) := by omega
        by_cases h12 : k < 12
        · have h12z : (k : Int) < 12 := by omega
          obtain ⟨g, off, rfl, -, hd0, hd1⟩ := HL.out.word hkl
          obtain ⟨y, hy, hy64⟩ := nat_of_u64 ⟨hd0, hd1⟩
          have HC : Hid (∀ W, Below w.heap.size w W → W.cell? ⟨g, off + k, none⟩ = some (.int .u64 y)) := by
            intro W hb
            obtain ⟨g', off', e, h, -⟩ := (HL.out.below hb).word hkl
            simp only [Option.some.injEq, Addr.mk.injEq, and_true] at e
            obtain ⟨rfl, rfl⟩ := e
            rw [h, hy]
          clear hd0 hd1 hy HL
          go_wp2_with fail
          refine (HW1.out N hN _ _ _ G3.out).mono ?_
          rintro e w5 ⟨rfl, h5⟩
          have G5 : Hid (One w w5 c m false (kV N asid lvl t p f 0)) := h5
          clear h5 G3 HW1 hN
          go_wp2_with fail
          refine (HS.out N _ _ _ G5.out).mono ?_
          rintro e w7 ⟨rfl, h7⟩
          have G7 : Hid (One w w7 c m false []) := h7
          have cw := HC.out _ h7.frame
          clear h7 G5 HS HT
          go_wp2_with fail
          refine (HW2.out y hy64 _ _ _ G7.out).mono ?_
          rintro e w8 ⟨rfl, h8⟩
          have G8 : Hid (One w w8 c m false []) := h8
          have q1 := h8.ask fun F hF => vBroken hF
          have q2 := h8.ask fun F hF => vOpen hF
          have cw := HC.out _ h8.frame
          clear h8 G7 HW2
          go_wp2_with fail
          refine q1.mono ?_
          rintro e w9 ⟨rfl, hw⟩
          obtain rfl := hw.symm
          clear hw q1
          go_wp2_with fail
          refine q2.mono ?_
          rintro e w9 ⟨rfl, hw⟩
          obtain rfl := hw.symm
          clear hw q2
          go_wp2
          go_roundw
          case rel => exact ⟨y, k + 1, by go_num, hy64, by omega, by omega, by go_num, G8.out⟩
          case measure => simp [intOf]; omega
        · have h12z : ¬ (k : Int) < 12 := by omega
          go_wp2
          go_ret
          exact ⟨rfl, G3.out.frame⟩
      · have hklz : ¬ (k : Int) < (len : Int) := by omega
        go_wp2
        go_ret
        exact ⟨rfl, G3.out.frame⟩
  | false =>
    go_enter Try.func3, Try.ntmps3
    go_wp2_with fail
    refine (upW_any _).mono ?_
    rintro e w1 ⟨rfl, hb1⟩
    go_wp2_with fail
    refine (oneNew hb1).mono ?_
    rintro e w2 ⟨c, m, rfl, h2⟩
    have G2 : Hid (One w w2 c m false []) := h2
    clear h2 hb1
    go_wp2_with fail
    refine (hM _).mono ?_
    rintro e w4 ⟨rfl, hw⟩
    obtain rfl := hw.symm
    clear hw
    go_wp2_with fail
    go_loopw [18, 19] (fun nw i W => ∃ N k : Nat, nw = .int .u64 N ∧ N < 18446744073709551616 ∧ k ≤ len ∧ k ≤ 12 ∧ i = .int .i64 k ∧ Hid (One w W c m false [])) (fun _ i _ => 12 - (intOf i).toNat)
    case atStart => exact ⟨0, 0, rfl, by decide, Nat.zero_le _, Nat.zero_le _, rfl, G2.out⟩
    case round =>
      obtain ⟨N, k, rfl, hN, hk, hk12, rfl, G3⟩ := hrel
      clear G2
      by_cases hkl : k < len
      · have hklz : (k : Int) < (len : Int) := by omega
        by_cases h12 : k < 12
        · have h12z : (k : Int) < 12 := by omega
          obtain ⟨g, off, rfl, -, hd0, hd1⟩ := HL.out.word hkl
          obtain ⟨y, hy, hy64⟩ := nat_of_u64 ⟨hd0, hd1⟩
          have HC : Hid (∀ W, Below w.heap.size w W → W.cell? ⟨g, off + k, none⟩ = some (.int .u64 y)) := by
            intro W hb
            obtain ⟨g', off', e, h, -⟩ := (HL.out.below hb).word hkl
            simp only [Option.some.injEq, Addr.mk.injEq, and_true] at e
            obtain ⟨rfl, rfl⟩ := e
            rw [h, hy]
          clear hd0 hd1 hy HL
          go_wp2_with fail
          refine (HW1.out N hN _ _ _ G3.out).mono ?_
          rintro e w5 ⟨rfl, h5⟩
          have G5 : Hid (One w w5 c m false (kV N asid lvl t p f 0)) := h5
          clear h5 G3 HW1 hN
          go_wp2_with fail
          go_loopw [21] (fun j W => ∃ i : Nat, i ≤ n ∧ j = .int .i64 i ∧ Hid (One w W c m false (kV N asid lvl t p f i))) (fun j _ => n - (intOf j).toNat)
          case atStart => exact ⟨0, Nat.zero_le _, rfl, G5.out⟩
          case round =>
            obtain ⟨i, hi, rfl, G6⟩ := hrel
            clear G5
            by_cases hin : i < n
            · have hiz : (i : Int) < (n : Int) := by omega
              have e1 : IntKind.i64.wrap (f + (i : Int)) = f + (i : Int) := IntWalk.i64_in _ (by have := HFB.out; omega)
              go_wp2_with (go_at_call 11; refine (hmany _).mono ?_; rintro e w8 ⟨rfl, hw⟩; obtain rfl := hw.symm; clear hw)
              refine (HT.out N i hin _ _ _ G6.out).mono ?_
              rintro e w7 ⟨rfl, h7⟩
              have G7 : Hid (One w w7 c m false (kV N asid lvl t p f (i + 1))) := h7
              clear h7 G6
              go_wp2
              go_roundw
              case rel => exact ⟨i + 1, by omega, by go_num, G7.out⟩
              case measure => simp [intOf]; omega
            · obtain rfl : i = n := by omega
              have hiz : ¬ (i : Int) < (i : Int) := by omega
              have G7 : Hid (One w wr c m false []) := by
                have := G6.out
                rwa [HE.out N] at this
              have cw := HC.out _ G7.out.frame
              clear G6 HT HS hin hi
              go_wp2_with (go_at_call 11; refine (hmany _).mono ?_; rintro e w8 ⟨rfl, hw⟩; obtain rfl := hw.symm; clear hw)
              refine (HW2.out y hy64 _ _ _ G7.out).mono ?_
              rintro e w8 ⟨rfl, h8⟩
              have G8 : Hid (One w w8 c m false []) := h8
              have q1 := h8.ask fun F hF => vBroken hF
              have q2 := h8.ask fun F hF => vOpen hF
              have cw := HC.out _ h8.frame
              clear h8 G7 HW2
              go_wp2_with fail
              refine q1.mono ?_
              rintro e w9 ⟨rfl, hw⟩
              obtain rfl := hw.symm
              clear hw q1
              go_wp2_with fail
              refine q2.mono ?_
              rintro e w9 ⟨rfl, hw⟩
              obtain rfl := hw.symm
              clear hw q2
              go_wp2
              go_roundw
              case rel => exact ⟨y, k + 1, by go_num, hy64, by omega, by omega, by go_num, G8.out⟩
              case measure => simp [intOf]; omega
        · have h12z : ¬ (k : Int) < 12 := by omega
          go_wp2
          go_ret
          exact ⟨rfl, G3.out.frame⟩
      · have hklz : ¬ (k : Int) < (len : Int) := by omega
        go_wp2
        go_ret
        exact ⟨rfl, G3.out.frame⟩

theorem walk_bbmKeeps (asid lvl t p f : Int) (ao : Option Addr) (len cap : Nat) (D : Nat → Int) (sp : Bool) (w : World) (_ : -9223372036854775808 ≤ asid ∧ asid ≤ 9223372036854775807) (_ : -9223372036854775808 ≤ lvl ∧ lvl ≤ 9223372036854775807) (_ : -9223372036854775808 ≤ t ∧ t ≤ 9223372036854775807)
    (_ : -9223372036854775808 ≤ p ∧ p ≤ 9223372036854775807) (_ : -9223372036854775808 ≤ f ∧ f ≤ 9223372036854775807) (hlen : len ≤ maxLen) (hL : Lst wcells wok 1 w ao len D) :
    Calls Try.prog 3 #[.int .i64 asid, .int .i64 lvl, .int .i64 t, .int .i64 p, .int .i64 f, .slice ao len cap, .bool sp] w fun e w' => e = .returned (.bool true) ∧ Below w.heap.size w w' := by
  cases hm : mayW asid lvl t p f with
  | false => exact keeps_no asid lvl t p f ao len cap sp w (Or.inl hm)
  | true =>
    by_cases h1 : lvl = 0
    · exact keeps_no asid lvl t p f ao len cap sp w (Or.inr ⟨hm, h1⟩)
    · exact keeps_yes asid lvl t p f ao len cap D sp w hlen hL hm h1
end Go.Proofs.Ytjijgpdfoilijaa
