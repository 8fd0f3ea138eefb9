/- WordCuts answers true for all arguments; condition: the table lies as its text lays it. -/
import Derived.Test.YthjkjlpiiejkmaaDoorUp
namespace Go.Proofs.YthjkjlpiiejkmaaDoor
open Go.RowKit

/-- A slice that tells these runs. -/
def Tells (w : World) (ao : Option Addr) (l : List (Nat × Nat)) : Prop :=
  ∀ i, i < l.length → ∃ g, ao = some ⟨g, 0, none⟩ ∧ w.cell? ⟨g, i * 2, none⟩ = some (.int .i64 (l.getD i (0, 0)).1) ∧ w.cell? ⟨g, i * 2 + 1, none⟩ = some (.int .i64 (l.getD i (0, 0)).2)

theorem tells_of_owned {w : World} {B : Nat} {v : Value} {l : List (Nat × Nat)} (h : w.ownsRow B 44 2 v l.length (runCells l)) :
    ∃ ao cap, v = .slice ao l.length cap ∧ Tells w ao l := by
  cases l with
  | nil =>
    rcases h.2 with ⟨rfl, _⟩ | ⟨g, cap, cur, rfl, _⟩
    · exact ⟨none, 0, rfl, fun i hi => by simp at hi⟩
    · exact ⟨_, cap, rfl, fun i hi => by simp at hi⟩
  | cons a l =>
    obtain ⟨g, cap, rfl, _, h1, h2⟩ := owned_open (by simp) h
    exact ⟨_, cap, rfl, fun i hi => ⟨g, rfl, h1 i hi, h2 i hi⟩⟩

theorem Tells.below {w w' : World} {ao : Option Addr} {l : List (Nat × Nat)} (h : Tells w ao l) (hb : Below w.heap.size w w') : Tells w' ao l := by
  intro i hi
  obtain ⟨g, hg, h1, h2⟩ := h i hi
  have hlt : g < w.heap.size := World.block_lt_of_cell? w _ h1
  exact ⟨g, hg, by rw [hb.cell (p := ⟨g, i * 2, none⟩) hlt]; exact h1, by rw [hb.cell (p := ⟨g, i * 2 + 1, none⟩) hlt]; exact h2⟩

theorem Tells.drewN {w : World} {ao : Option Addr} {l : List (Nat × Nat)} (h : Tells w ao l) (d : Nat) : Tells (w.drewN d) ao l := h.below (below_drewN (Below.refl _ _) d)

set_option maxHeartbeats 2000000 in
theorem walk_wordCuts (f t : Int) (w : World) (hT : Tab w) (_hf : -9223372036854775808 ≤ f ∧ f ≤ 9223372036854775807) (_ht : -9223372036854775808 ≤ t ∧ t ≤ 9223372036854775807) :
    Calls Tryd.prog 6 #[.int .i64 f, .int .i64 t] w fun e w' => e = .returned (.bool true) ∧ Below w.heap.size w w' := by
  have hq := fun a b c d w => eqArr2 a b c d w
  by_cases hr : 0 ≤ f ∧ f ≤ t ∧ t ≤ 1048576
  · obtain ⟨r1, r2, r3⟩ := hr
    obtain ⟨f, rfl⟩ := Int.eq_ofNat_of_zero_le r1
    obtain ⟨t, rfl⟩ := Int.eq_ofNat_of_zero_le (show 0 ≤ t by omega)
    have hlen := cutL_length (t - f) f t (Nat.le_refl _)
    have n1 : ¬ ((f : Int) < 0) := by omega
    have n2 : ¬ (t < f) := by omega
    have n3 : ¬ ((1048576 : Int) < (t : Int)) := by omega
    have s1 : f ≤ t := by omega
    have s2 : t ≤ 1048576 := by omega
    go_enter Tryd.func6, Tryd.ntmps6
    go_wp2_with fail
    refine (up_any _ hT).mono ?_
    rintro e w1 ⟨rfl, hbel⟩
    go_wp2_with fail
    refine (cut_yes f t _ (hT.below hbel (Nat.le_refl _)) s1 s2).mono ?_
    rintro e w2 ⟨v, rfl, hown, hbel2⟩
    obtain ⟨ao, cap, rfl, htell⟩ := tells_of_owned hown
    clear hown
    go_wp2_with fail
    refine (refCut_any f t _ s1 s2).mono ?_
    rintro e w3 ⟨v2, rfl, hown2, hbel3⟩
    obtain ⟨ao2, cap2, rfl, htell2⟩ := tells_of_owned hown2
    have htell1 := htell.below hbel3
    clear hown2 htell
    have hB : Below w.heap.size w w3 := (hbel.trans (hbel2.mono hbel.size)).trans (hbel3.mono (Nat.le_trans hbel.size hbel2.size))
    clear hbel hbel2 hbel3
    have T1 : Hid _ := htell1
    have T2 : Hid _ := htell2
    clear htell1 htell2
    obtain ⟨l, hl⟩ : ∃ l, l = cutL f t := ⟨_, rfl⟩
    rw [← hl] at hlen T1 T2 ⊢
    clear hl
    go_wp2
    go_loopw [9] (fun i wr => ∃ k : Nat, k ≤ l.length ∧ i = .int .i64 k ∧ Tells wr ao l ∧ Tells wr ao2 l ∧ Below w.heap.size w wr) (fun i _ => l.length - (intOf i).toNat)
    case atStart => exact ⟨0, Nat.zero_le _, rfl, T1.out, T2.out, hB⟩
    case round =>
      obtain ⟨k, hk, rfl, hA, hC, hBr⟩ := hrel
      by_cases hlt : k < l.length
      · obtain ⟨g, rfl, a1, a2⟩ := hA k hlt
        obtain ⟨g2, rfl, c1, c2⟩ := hC k hlt
        have HA : Hid _ := hA
        have HC : Hid _ := hC
        clear hA hC T1 T2
        go_wp2
        go_quiet (fail)
        go_wp2
        go_roundw
        case rel => exact ⟨k + 1, by omega, by go_num, Tells.drewN HA.out _, Tells.drewN HC.out _, below_drewN hBr _⟩
        case measure => simp [intOf]; omega
      · have : k = l.length := by omega
        subst this
        clear hA hC T1 T2
        go_wp2
        go_ret
        exact ⟨rfl, hBr⟩
  · have he := fun w => Lib.run_eql_iface_int (P := Tryd.prog) w (t := 25) (tx := 30) (k := .i64) 1 1 Tryd.underlying25 (by kernel_rfl) Tryd.underlying30
    have hcase : f < 0 ∨ (0 ≤ f ∧ t < f) ∨ (0 ≤ f ∧ f ≤ t ∧ 1048576 < t) := by omega
    have HR : Hid _ := hr
    clear hr
    go_enter Tryd.func6, Tryd.ntmps6
    go_wp2_with fail
    refine (up_any _ hT).mono ?_
    rintro e w1 ⟨rfl, hbel⟩
    rcases hcase with c | ⟨c, c2⟩ | ⟨c, c2, c3⟩
    all_goals
      go_wp2_with (go_at_call 22; refine (cut_no _ _ _ HR.out).mono ?_; rintro e w2 ⟨rfl, hw⟩; obtain rfl := hw.symm; clear hw)
      go_ret
      exact ⟨rfl, hbel⟩
end Go.Proofs.YthjkjlpiiejkmaaDoor
