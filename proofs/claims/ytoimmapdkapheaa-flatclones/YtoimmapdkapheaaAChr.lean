/- The document's Change; whether what is told is right. -/
import Derived.Test.YtoimmapdkapheaaATo
import Derived.Test.YtoimmapdkapheaaAOf
namespace Go.Proofs.Ytoimmapdkapheaa
set_option maxRecDepth 4000
open Go.RowKit

/-- What is laid: rights, or Huge. -/
def chgT (r x y h : Bool) : Pg → Pg := if r = true then fun p => (x, y, p.2.2) else fun p => (p.1, p.2.1, h)
theorem map_step {f : Int → Option Pg} {a k : Nat} {t : Pg → Pg} {z : Pg} (hk : a ≤ k) (hz : f k = some z) : pagesA (mapA f a ((k + 1 : Nat) : Int) t) = (pagesA (mapA f a k t)).set k (pgA (some (t z))) := by
  rw [pages_set]
  apply pages_congr
  intro p _ _
  unfold mapA
  by_cases e : p = (k : Int)
  · rw [if_pos e, if_pos (by omega), e, hz]
    rfl
  · rw [if_neg e]
    by_cases e2 : (a : Int) ≤ p ∧ p < (k : Int)
    · rw [if_pos e2, if_pos (by omega)]
    · rw [if_neg e2, if_neg (by omega)]
def ChgW (B : Nat) (w : World) (g c : Nat) (f : Int → Option Pg) (a b : Nat) (t : Pg → Pg) (e : Ending) (w' : World) : Prop :=
  ((∀ p : Int, (a : Int) ≤ p → p < (b : Int) → f p ≠ none) ∧ e = .returned (.bool true) ∧ Row rAPg B w' (.slice (some ⟨g, 0, none⟩) 4096 c) (pagesA (mapA f a b t)) ∧ Keeps w w' (fun x => x = g)) ∨
  ((∃ p : Int, (a : Int) ≤ p ∧ p < (b : Int) ∧ f p = none) ∧ e = .returned (.bool false) ∧ Row rAPg B w' (.slice (some ⟨g, 0, none⟩) 4096 c) (pagesA f) ∧ Keeps w w' (fun x => x = g))
theorem map_none (f : Int → Option Pg) (a : Nat) (t : Pg → Pg) : pagesA (mapA f a a t) = pagesA f := pages_congr fun p _ _ => if_neg (by omega)
set_option maxRecDepth 100000 in
set_option maxHeartbeats 8000000 in
theorem rchange_any {B : Nat} {w : World} {g c : Nat} {f : Int → Option Pg} (hr : Row rAPg B w (.slice (some ⟨g, 0, none⟩) 4096 c) (pagesA f)) (a b : Nat) (hab : a ≤ b) (hb4 : b ≤ 4096) (r x y z : Bool) :
    Calls Try.prog 51 #[.slice (some ⟨g, 0, none⟩) 4096 c, .int .i64 a, .int .i64 b, .bool r, .agg #[.bool x, .bool y], .bool z] w (ChgW B w g c f a b (chgT r x y z)) := by
  have hgw : g < w.heap.size := (hr.lt g rfl).2
  have hb0 := new_below w (.cells #[.bool x, .bool y] 31)
  have HR0 : Hid (Row rAPg B (w.alloc (.cells #[.bool x, .bool y] 31)) (.slice (some ⟨g, 0, none⟩) 4096 c) (pagesA f)) := hr.below hb0
  have HB0 : Hid (Below w.heap.size w (w.alloc (.cells #[.bool x, .bool y] 31))) := hb0
  have HX0 : Hid (Laid (w.alloc (.cells #[.bool x, .bool y] 31)) w.heap.size 31 #[.bool x, .bool y]) := Laid.new _ _ _
  have HAS : Hid (∀ k, k < 4096 → w.cell? ⟨g, k * 4, none⟩ = some (.bool (f (k : Nat)).isSome)) := fun k hk => by
    obtain ⟨g', e', -, -, -, -, -, hat⟩ := hr.at (show k < _ by rw [pages_len]; exact hk)
    cases e'
    obtain ⟨p0, -⟩ := APg.at hat
    rw [show rAPg.zero = APg.zero from rfl, pages_get f hk, pgA_is] at p0
    exact p0
  have HK0 : Hid (Keeps w (w.alloc (.cells #[.bool x, .bool y] 31)) (fun x => x = g)) := Keeps.of_below hb0 _
  clear hr hb0
  go_enter Try.func51, Try.ntmps51
  go_wp2
  go_loopw [13] (fun iv W => W = w.alloc (.cells #[.bool x, .bool y] 31) ∧ ∃ k : Nat, a ≤ k ∧ k ≤ b ∧ iv = .int .i64 k ∧ Hid (∀ p : Int, (a : Int) ≤ p → p < (k : Int) → f p ≠ none)) (fun iv _ => b - (intOf iv).toNat)
  case atStart => exact ⟨rfl, a, Nat.le_refl _, hab, rfl, fun p h1 h2 => by omega⟩
  case round =>
    obtain ⟨rfl, k, hk1, hk2, rfl, HP⟩ := hrel
    by_cases hkb : k < b
    · have hkz : (k : Int) < (b : Int) := by omega
      have hk4 : (k : Int) < 4096 := by omega
      have c0 := HAS.out k (by omega)
      cases hf : f k with
      | none =>
        rw [hf, Option.isSome_none] at c0
        have HN : Hid (∃ p : Int, (a : Int) ≤ p ∧ p < (b : Int) ∧ f p = none) := ⟨k, by omega, by omega, hf⟩
        clear hf HP HAS
        go_wp2
        go_ret
        exact Or.inr ⟨HN.out, rfl, HR0.out, HK0.out⟩
      | some q =>
        rw [hf, Option.isSome_some] at c0
        have HP2 : Hid (∀ p : Int, (a : Int) ≤ p → p < ((k + 1 : Nat) : Int) → f p ≠ none) := fun p h1 h2 => by
          by_cases h3 : p < (k : Int)
          · exact HP.out p h1 h3
          · rw [show p = (k : Int) by omega, hf]
            simp
        clear hf HP
        go_wp2
        go_roundw
        case rel => exact ⟨by first | rfl | trivial, k + 1, by omega, by omega, by go_num, HP2⟩
        case measure => simp only [intOf]; omega
    · have hkz : ¬ (k : Int) < (b : Int) := by omega
      have HALL : Hid (∀ p : Int, (a : Int) ≤ p → p < (b : Int) → f p ≠ none) := fun p h1 h2 => HP.out p h1 (by omega)
      have HRA : Hid (Row rAPg B (w.alloc (.cells #[.bool x, .bool y] 31)) (.slice (some ⟨g, 0, none⟩) 4096 c) (pagesA (mapA f a a (chgT r x y z)))) := by
        rw [map_none]
        exact HR0.out
      clear HP HAS HR0 hk1 hk2
      go_wp2
      go_loopw [14] (fun iv W => ∃ j : Nat, a ≤ j ∧ j ≤ b ∧ iv = .int .i64 j ∧ Hid (Row rAPg B W (.slice (some ⟨g, 0, none⟩) 4096 c) (pagesA (mapA f a j (chgT r x y z)))) ∧ Hid (Laid W w.heap.size 31 #[.bool x, .bool y]) ∧ Hid (Keeps w W (fun x => x = g))) (fun iv _ => b - (intOf iv).toNat)
      case atStart => exact ⟨a, Nat.le_refl _, hab, rfl, HRA, HX0, HK0⟩
      case round =>
        obtain ⟨j, hj1, hj2, rfl, HR, HX, HK⟩ := hrel
        clear HRA HX0 HK0 HB0
        by_cases hjb : j < b
        · have hjz : (j : Int) < (b : Int) := by omega
          have hj4 : (j : Int) < 4096 := by omega
          obtain ⟨q, hq⟩ : ∃ q, f j = some q := by
            cases e : f j with
            | none => exact absurd e (HALL.out j (by omega) (by omega))
            | some q => exact ⟨q, rfl⟩
          have hjl : j < (pagesA (mapA f a j (chgT r x y z))).length := by rw [pages_len]; omega
          obtain ⟨g', e', -, -, hqw, -, -, hat⟩ := HR.out.at hjl
          cases e'
          rw [show rAPg.zero = APg.zero from rfl, pages_get _ (show j < 4096 by omega), show mapA f a j (chgT r x y z) j = some q from by unfold mapA; rw [if_neg (by omega)]; exact hq] at hat
          have hpg : (pagesA (mapA f a j (chgT r x y z))).getD j rAPg.zero = pgA (some q) := by
            rw [show rAPg.zero = APg.zero from rfl, pages_get _ (show j < 4096 by omega)]
            unfold mapA
            rw [if_neg (by omega), hq]
          obtain ⟨p0, p1, p2, p3⟩ := APg.at hat
          simp only [show rAPg.n = 4 from rfl] at p0 p1 p2 p3
          have hfz := fun o => HR.out.frozen o
          obtain ⟨b0, b1⟩ : wr.cell? ⟨w.heap.size, 0, none⟩ = some (.bool x) ∧ wr.cell? ⟨w.heap.size, 1, none⟩ = some (.bool y) := ⟨HX.out.cell 0, HX.out.cell 1⟩
          have hne : g ≠ w.heap.size := by omega
          have hst := map_step (t := chgT r x y z) hj1 hq
          have HKS : Hid (∀ W o (v : Value), Keeps w W (fun x => x = g) → Keeps w (W.setCell ⟨g, o, none⟩ v) (fun x => x = g)) := fun W o v h => h.trans (Keeps.set W g o v) fun _ _ h => h
          have HXS : Hid (∀ W o (v : Value), Laid W w.heap.size 31 #[.bool x, .bool y] → Laid (W.setCell ⟨g, o, none⟩ v) w.heap.size 31 #[.bool x, .bool y]) := fun W o v h => (heap_setCell_other W _ w.heap.size v (fun e => hne e.symm)).trans h
          obtain ⟨qw, qx, qh⟩ := q
          cases r with
          | true =>
            have HN : Hid (Row rAPg B ((wr.setCell ⟨g, j * 4 + 1, none⟩ (.bool x)).setCell ⟨g, j * 4 + 2, none⟩ (.bool y)) (.slice (some ⟨g, 0, none⟩) 4096 c) (pagesA (mapA f a ((j + 1 : Nat) : Int) (chgT true x y z)))) := by
              rw [hst]
              refine HR.out.sets j 1 [.bool x, .bool y] _ hjl (show 1 + 2 ≤ 4 by decide) (fun i hi => ?_) (fun i hi hn => ?_)
              · have hi2 : i < 2 := hi
                match i, hi2 with
                | 0, _ => rfl
                | 1, _ => rfl
              · have hi4 : i < 4 := hi
                have hn2 : i < 1 ∨ 3 ≤ i := hn
                rw [hpg]
                match i, hi4, hn2 with
                | 0, _, _ => rfl
                | 3, _, _ => rfl
                | 1, _, h => exact absurd h (by omega)
                | 2, _, h => exact absurd h (by omega)
            clear hst hpg hat HR hjl hq
            go_wp2
            go_roundw
            case rel => exact ⟨j + 1, by omega, by omega, by go_num, HN, HXS.out _ _ _ (HXS.out _ _ _ HX.out), HKS.out _ _ _ (HKS.out _ _ _ HK.out)⟩
            case measure => simp only [intOf]; omega
          | false =>
            have HN : Hid (Row rAPg B (wr.setCell ⟨g, j * 4 + 3, none⟩ (.bool z)) (.slice (some ⟨g, 0, none⟩) 4096 c) (pagesA (mapA f a ((j + 1 : Nat) : Int) (chgT false x y z)))) := by
              rw [hst]
              refine HR.out.sets j 3 [.bool z] _ hjl (show 3 + 1 ≤ 4 by decide) (fun i hi => ?_) (fun i hi hn => ?_)
              · have hi2 : i < 1 := hi
                match i, hi2 with
                | 0, _ => rfl
              · have hi4 : i < 4 := hi
                have hn2 : i < 3 ∨ 4 ≤ i := hn
                rw [hpg]
                match i, hi4, hn2 with
                | 0, _, _ => rfl
                | 1, _, _ => rfl
                | 2, _, _ => rfl
                | 3, _, h => exact absurd h (by omega)
            clear hst hpg hat HR hjl hq
            go_wp2
            go_roundw
            case rel => exact ⟨j + 1, by omega, by omega, by go_num, HN, HXS.out _ _ _ HX.out, HKS.out _ _ _ HK.out⟩
            case measure => simp only [intOf]; omega
        · obtain rfl : j = b := by omega
          clear HX
          go_wp2
          go_ret
          exact Or.inl ⟨HALL.out, rfl, HR.out, HK.out⟩
end Go.Proofs.Ytoimmapdkapheaa
