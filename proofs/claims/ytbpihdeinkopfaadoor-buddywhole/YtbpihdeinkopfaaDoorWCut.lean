/- What word.Cut answers; conditions: the table lies as its text lays it. -/
import Derived.Test.YtbpihdeinkopfaaDoorWTz
namespace Go.Proofs.YtbpihdeinkopfaaDoor
open Go.RowKit

theorem info_two : (Tryd.prog.info? 66).map (fun i => (i.zero, i.size, i.bytes)) = some (some (.agg #[.int .i64 0, .int .i64 0]), 2, 16) := by kernel_rfl

theorem runs_step {B : Nat} {w wr w1 : World} {o : Obj} {u v' : Value} {xs : List (Nat × Nat)} {f k : Nat} (hB : B ≤ wr.heap.size) (hown : wr.ownsRow B 66 2 u xs.length (runCells xs)) (hbel : Below B w wr)
    (hown' : w1.ownsRow B 66 2 v' (xs.length + 1) (runCells xs ++ [.int .i64 f, .int .i64 k])) (hgrow : (wr.alloc o).grownBy w1 u.ownBlock) :
    w1.ownsRow B 66 2 v' (xs ++ [(f, k)]).length (runCells (xs ++ [(f, k)])) ∧ Below B w w1 := by
  refine ⟨?_, (hbel.alloc hB o).grown hgrow (by simp; omega) (fun k hk => (hown.lt k hk).1)⟩
  rw [runCells_append, List.length_append]
  exact hown'

set_option maxHeartbeats 1000000 in
theorem cut_yes (f0 t : Nat) (w : World) (hT : Tab w) (hf : f0 ≤ t) (ht : t ≤ 1048576) :
    Calls Tryd.prog 37 #[.int .i64 f0, .int .i64 t] w fun e w' => ∃ v, e = .returned (.tuple #[v, .nilIface]) ∧ w'.ownsRow w.heap.size 66 2 v (cutL f0 t).length (runCells (cutL f0 t)) ∧ Below w.heap.size w w' := by
  obtain ⟨i0, hi, hz0, hz1, hz2⟩ := info_parts info_two
  have n1 : ¬ ((f0 : Int) < 0) := by omega
  have n2 : ¬ (t < f0) := by omega
  have n3 : ¬ ((1048576 : Int) < (t : Int)) := by omega
  go_enter Tryd.func37, Tryd.ntmps37
  go_wp2
  go_loopw [0, 6] (fun fr v wr => ∃ (f : Nat) (xs : List (Nat × Nat)), fr = .int .i64 f ∧ f ≤ t ∧ xs ++ cutL f t = cutL f0 t ∧ xs.length ≤ f ∧ wr.ownsRow w.heap.size 66 2 v xs.length (runCells xs) ∧ Below w.heap.size w wr)
    (fun fr _ _ => t - (intOf fr).toNat)
  case atStart => exact ⟨f0, [], rfl, hf, rfl, by simp, World.ownsRow_nil _ _ _ _, Below.refl _ _⟩
  case round =>
    obtain ⟨f, xs, rfl, hft, hxs, hlen, hown, hbel⟩ := hrel
    have hTr := hT.below hbel (Nat.le_refl _)
    have HX : Hid _ := hxs
    have HT : Hid (Tab wr) := hTr
    clear hxs hTr
    by_cases hlt : f < t
    · have hol := ordN_le f t
      have hof := (ordN_fits f t hlt ht).2
      go_wp2_with (first
        | (go_at_call 46; refine (longest_any f t _ HT.out hlt ht).mono ?_; rintro e w1 ⟨rfl, hw⟩; obtain rfl := hw.symm)
        | (at_builtin; refine wpList_append_own _ rfl _ _ 63 rfl w.heap.size 66 i0 (.agg #[.int .i64 0, .int .i64 0]) 2 16 Tryd.underlying63 hi hz0 hz1 hz2 rfl (by decide) _ _ _ rfl (hown.alloc _) ⟨wr.heap.size, 0, none⟩ 1 1 [.int .i64 f, .int .i64 (ordN f t)] rfl rfl ?c1 ?c2 ?c3 ?c4 ?c5 ?_))
      case c1 =>
        intro j u hj
        match j, hj with
        | 0, hj => simp at hj; subst hj; simp [Addr.add]
        | 1, hj => simp at hj; subst hj; simp [Addr.add]
      case c2 => intro u hu; simp at hu; rcases hu with rfl | rfl <;> rfl
      case c3 => unfold maxLen; omega
      case c4 => omega
      case c5 => have := hbel.size; simp; omega
      intro v' w1 hown' hgrow _
      have R := runs_step hbel.size hown hbel hown' hgrow
      have HR : Hid _ := R
      have h1 : (0 : Int) ≤ 2 ^ (ordN f t) := Int.le_of_lt (Int.pow_pos (by decide))
      have h2 : (2 : Int) ^ (ordN f t) ≤ 1048576 := by
        have := Nat.pow_le_pow_right (show 0 < 2 by decide) hol
        simp only [Nat.reducePow] at this
        have e : ((2 ^ ordN f t : Nat) : Int) = 2 ^ ordN f t := by simp
        omega
      clear hown' hgrow hown hbel HT R
      have e2 : ((2 ^ ordN f t : Nat) : Int) = 2 ^ ordN f t := by simp
      have h3 := Nat.two_pow_pos (ordN f t)
      have HE : Hid _ := e2
      clear e2
      go_wp2
      go_roundw
      case rel =>
        have e2 := HE.out
        refine ⟨f + 2 ^ ordN f t, xs ++ [(f, ordN f t)], ?_, hof, ?_, ?_, HR.out.1, HR.out.2⟩
        · go_num
        · rw [← HX.out, cutL_lt f t hlt]; simp
        · simp; omega
      case measure =>
        have e2 := HE.out
        simp only [intOf]; omega
    · have : f = t := by omega
      subst this
      have hx := HX.out
      rw [cutL_ge f f (Nat.le_refl _), List.append_nil] at hx
      have HX2 : Hid _ := hx
      clear HX hx
      go_wp2
      go_ret2
      refine ⟨_, rfl, ?_, hbel⟩
      rw [← HX2.out]
      exact hown
end Go.Proofs.YtbpihdeinkopfaaDoor
