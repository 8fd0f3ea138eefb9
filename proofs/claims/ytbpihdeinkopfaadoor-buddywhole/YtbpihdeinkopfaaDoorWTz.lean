/- What math/bits.TrailingZeros64 and Len64 (at numbers below 2^24) and word.longest answer; under the condition that the library's table lies as its text lays it. -/
import Derived.Test.YtbpihdeinkopfaaDoorZ
import Derived.Test.YtbpihdeinkopfaaDoorWCutM
import Derived.Laws.Bits64b
import Derived.Lib.Strings
import Derived.Lib.Slices
import Derived.Lib.Small
import Derived.Lib.Walk
namespace Go.Proofs.YtbpihdeinkopfaaDoor
open Go.RowKit

/-- The library's table, as it is laid. -/
def Tab (w : World) : Prop := ∀ j, j < 64 → w.cell? ⟨0, j, none⟩ = some (.int .u8 (Lib.deBruijn64tab.getD j 0))

theorem Tab.below {B : Nat} {w w' : World} (h : Tab w) (hb : Below B w w') (hB : w.heap.size ≤ B) : Tab w' := by
  intro j hj
  have hc := h j hj
  rw [hb.cell (p := ⟨0, j, none⟩) (by have : 0 < w.heap.size := World.block_lt_of_cell? w _ hc; show 0 < B; omega)]
  exact hc

theorem tz64_key (x a : Nat) (hx : x < 18446744073709551616) (hx0 : x ≠ 0) (hlow : x &&& (18446744073709551616 - x) = a) :
    IntKind.u64.wrap (bits BinOp.and IntKind.u64 (x : Int) (IntKind.u64.wrap (-(x : Int))) * 285870213051353865) / 288230376151711744 = ((a * 285870213051353865 % 18446744073709551616 / 288230376151711744 : Nat) : Int) := by
  have e1 : IntKind.u64.wrap (-(x : Int)) = ((18446744073709551616 - x : Nat) : Int) := by rw [IntKind.wrap_u64]; omega
  rw [e1, bits_and_u64_nat x _ hx (by omega), hlow, IntKind.wrap_u64]
  omega

set_option maxHeartbeats 1000000 in
theorem tz64_core (x k idx : Nat) (w : World) (hx0 : ((x : Int) == 0) = false)
    (key : IntKind.u64.wrap (bits BinOp.and IntKind.u64 (x : Int) (IntKind.u64.wrap (-(x : Int))) * 285870213051353865) / 288230376151711744 = (idx : Int))
    (hi : idx < 64) (hk : k < 64) (hcell : w.cell? ⟨0, idx, none⟩ = some (.int .u8 k)) :
    Calls Tryd.prog 50 #[.int .u64 x] w fun e w' => e = .returned (.int .i64 k) ∧ w' = w := by
  go_enter Tryd.func50, Tryd.ntmps50
  go_wp2_with (simp only [key])
  go_ret
  exact ⟨rfl, rfl⟩
theorem tz64_zero (w : World) : Calls Tryd.prog 50 #[.int .u64 0] w fun e w' => e = .returned (.int .i64 64) ∧ w' = w := by
  go_enter Tryd.func50, Tryd.ntmps50
  go_wp2
  go_ret
  exact ⟨rfl, rfl⟩
theorem tz64_any (x : Nat) (hx : x < 18446744073709551616) (w : World) (hT : Tab w) :
    Calls Tryd.prog 50 #[.int .u64 x] w fun e w' => e = .returned (.int .i64 (Lib.ctz 64 x)) ∧ w' = w := by
  by_cases hx0 : x = 0
  · subst hx0
    exact tz64_zero w
  · obtain ⟨hlow, hk⟩ := Lib.lowest_bit 64 x hx0 hx
    obtain ⟨hi, htab⟩ := Lib.deBruijn64_at _ hk
    have hcell := hT _ hi
    rw [htab] at hcell
    exact tz64_core x _ _ w (by simp; omega) (tz64_key x _ hx hx0 hlow) hi hk hcell

theorem len8_at (i : Int) (h0 : 0 ≤ i) (h : i ≤ 255) (hp : i.toNat < Lib.len8tab.size) : (((Lib.len8tab[i.toNat]'hp).toNat : Nat) : Int) = Lib.bitLen i.toNat := by
  rw [← Lib.len8_of i h0 h]
  simp only [Lib.len8]
  generalize Lib.len8tab = tb at hp ⊢
  rw [getElem?_pos tb i.toNat hp, Option.getD_some]

set_option maxHeartbeats 4000000 in
set_option maxRecDepth 100000 in
theorem len64_any (x : Int) (w : World) (h0 : 0 ≤ x) (h1 : x ≤ 16777215) :
    Calls Tryd.prog 51 #[.int .u64 x] w fun e w' => e = .returned (.int .i64 (Lib.bitLen x.toNat)) ∧ w' = w := by
  have hs := Lib.len8tab_size
  go_enter Tryd.func51, Tryd.ntmps51
  go_wp2
  all_goals (go_ret; refine ⟨congrArg Ending.returned (congrArg (Value.int IntKind.i64) ?_), rfl⟩)
  all_goals unfold wrap64
  all_goals first
    | (rw [len8_at (x / 65536) (by omega) (by omega)]
       have e : (x / 65536).toNat = x.toNat / 65536 := by omega
       have l := Lib.bitLen_le8' (x / 65536) (by omega) (by omega)
       have s := Lib.bitLen_shift16 x.toNat (by omega) (by omega)
       rw [e] at l ⊢
       omega)
    | (rw [len8_at (x / 256) (by omega) (by omega)]
       have e : (x / 256).toNat = x.toNat / 256 := by omega
       have l := Lib.bitLen_le8' (x / 256) (by omega) (by omega)
       have s := Lib.bitLen_shift8 x.toNat (by omega) (by omega)
       rw [e] at l ⊢
       omega)
    | (rw [len8_at x (by omega) (by omega)]
       have l := Lib.bitLen_le8' x (by omega) (by omega)
       omega)

/-- The longest run's order. -/
theorem longest_core (f t : Nat) (c b : Nat) (w : World) (hft : f < t) (ht : t ≤ 1048576) (hc : c ≤ 64) (hb : 1 ≤ b) (hb' : b ≤ 24)
    (H1 : Calls Tryd.prog 50 #[.int .u64 f] w fun e w' => e = .returned (.int .i64 c) ∧ w' = w)
    (H2 : Calls Tryd.prog 51 #[.int .u64 ((t : Int) - f)] w fun e w' => e = .returned (.int .i64 b) ∧ w' = w) :
    Calls Tryd.prog 46 #[.int .i64 f, .int .i64 t] w fun e w' => e = .returned (.int .i64 (min (min c (b - 1)) 20 : Nat)) ∧ w' = w := by
  go_enter Tryd.func46, Tryd.ntmps46
  go_wp2_with fail
  refine H1.mono ?_
  rintro e w' ⟨rfl, rfl⟩
  go_wp2_with fail
  refine H2.mono ?_
  rintro e w'' ⟨rfl, rfl⟩
  go_wp2_with fail
  all_goals (go_ret; refine ⟨ret_int ?_, rfl⟩)
  all_goals omega

theorem longest_any (f t : Nat) (w : World) (hT : Tab w) (hft : f < t) (ht : t ≤ 1048576) :
    Calls Tryd.prog 46 #[.int .i64 f, .int .i64 t] w fun e w' => e = .returned (.int .i64 (ordN f t)) ∧ w' = w := by
  have hc : Lib.ctz 64 f ≤ 64 := by
    by_cases h0 : f = 0
    · subst h0; decide
    · exact Nat.le_of_lt (ctz_lt f (by omega) (by omega))
  have hb1 : 1 ≤ Lib.bitLen (t - f) := (bitLen_lt_iff (t - f) 0 (by omega) (by omega)).1 (by simp; omega)
  have hb2 : Lib.bitLen (t - f) ≤ 24 := Lib.bitLen_le _ 24 (by decide) (by omega)
  have h2 := len64_any ((t : Int) - f) w (by omega) (by omega)
  rw [show ((t : Int) - f).toNat = t - f from by omega] at h2
  exact longest_core f t _ _ w hft ht hc hb1 hb2 (tz64_any f (by omega) w hT) h2
end Go.Proofs.YtbpihdeinkopfaaDoor
