/- A memory of package phys as it lies: a pointer's block that holds a slice, and the slice's row of words. -/
import Derived.Test.YteoblaopbhdneaaZ
namespace Go.Proofs.Yteoblaopbhdneaa
open Go.RowKit

/-- The memory whose pointer is b: its row is s, of n frames; the word of place j is f j. -/
structure Mem (B : Nat) (w : World) (b s n : Nat) (f : Nat → Nat) : Prop where
  hb : B ≤ b
  hs : B ≤ s
  ne : b ≠ s
  ptr : ∃ cap, n ≤ cap ∧ w.heap[b]? = some (.cells #[.slice (some ⟨s, 0, none⟩) n cap] 78 (0, 0))
  row : ∃ c : Array Value, w.heap[s]? = some (.cells c 75 (0, 0)) ∧ ∀ j, j < 8 * n → c[j]? = some (.int .u64 (f j))

theorem Mem.lt {B : Nat} {w : World} {b s n : Nat} {f : Nat → Nat} (h : Mem B w b s n f) : b < w.heap.size ∧ s < w.heap.size := by
  obtain ⟨cap, _, h1⟩ := h.ptr
  obtain ⟨c, h2, _⟩ := h.row
  exact ⟨(Array.getElem?_eq_some_iff.1 h1).1, (Array.getElem?_eq_some_iff.1 h2).1⟩

/-- What a walk asks of it. -/
theorem Mem.rules {B : Nat} {w : World} {b s n : Nat} {f : Nat → Nat} (h : Mem B w b s n f) :
    (∃ cap : Nat, w.cell? ⟨b, 0, none⟩ = some (.slice (some ⟨s, 0, none⟩) n cap) ∧ n ≤ cap) ∧ (∀ j, j < 8 * n → w.cell? ⟨s, j, none⟩ = some (.int .u64 (f j))) ∧ (∀ j, w.frozen? ⟨s, j, none⟩ = false) := by
  obtain ⟨cap, hc, h1⟩ := h.ptr
  obtain ⟨c, h2, h3⟩ := h.row
  exact ⟨⟨cap, by simp [World.cell?, h1], hc⟩, fun j hj => by simp [World.cell?, h2, h3 j hj], fun j => by simp [World.frozen?, h2]⟩

def okF (n : Nat) (a : Int) : Bool := decide (0 ≤ a ∧ a < n)
def okP (n : Nat) (a i : Int) : Bool := decide (0 ≤ a ∧ a < n ∧ 0 ≤ i ∧ i < 8)

set_option maxHeartbeats 400000 in
theorem hasFrame_any {B : Nat} {w : World} {b s n : Nat} {f : Nat → Nat} (h : Mem B w b s n f) (a : Int) :
    Calls Try.prog 45 #[.pointer (some ⟨b, 0, none⟩), .int .i64 a] w fun e w' => e = .returned (.bool (okF n a)) ∧ w' = w := by
  obtain ⟨⟨cap, hp, _⟩, _, _⟩ := h.rules
  clear h
  by_cases h0 : 0 ≤ a
  · go_enter Try.func45, Try.ntmps45
    go_wp2
    all_goals go_ret
    all_goals refine ⟨ret_bool ?_, rfl⟩
    all_goals (rw [Bool.eq_iff_iff]; simp [okF]; try omega)
  · go_enter Try.func45, Try.ntmps45
    go_wp2
    all_goals go_ret
    all_goals refine ⟨ret_bool ?_, rfl⟩
    all_goals (rw [Bool.eq_iff_iff]; simp [okF]; try omega)

set_option maxHeartbeats 400000 in
theorem hasPlace_any {B : Nat} {w : World} {b s n : Nat} {f : Nat → Nat} (h : Mem B w b s n f) (a i : Int) :
    Calls Try.prog 34 #[.pointer (some ⟨b, 0, none⟩), .int .i64 a, .int .i64 i] w fun e w' => e = .returned (.bool (okP n a i)) ∧ w' = w := by
  have hF := hasFrame_any h a
  clear h
  cases hq : okF n a
  · rw [hq] at hF
    go_enter Try.func34, Try.ntmps34
    go_wp2_with (go_at_call 45; refine hF.mono ?_; rintro e w1 ⟨rfl, hw⟩; obtain rfl := hw.symm; clear hw)
    all_goals go_ret
    all_goals refine ⟨ret_bool ?_, rfl⟩
    all_goals (unfold okF at hq; rw [decide_eq_false_iff_not] at hq; symm; unfold okP; rw [decide_eq_false_iff_not]; omega)
  · rw [hq] at hF
    go_enter Try.func34, Try.ntmps34
    go_wp2_with (go_at_call 45; refine hF.mono ?_; rintro e w1 ⟨rfl, hw⟩; obtain rfl := hw.symm; clear hw)
    all_goals go_ret
    all_goals refine ⟨ret_bool ?_, rfl⟩
    all_goals (unfold okF at hq; rw [decide_eq_true_iff] at hq; rw [Bool.eq_iff_iff]; simp [okP]; try omega)

set_option maxHeartbeats 400000 in
theorem frames_any {B : Nat} {w : World} {b s n : Nat} {f : Nat → Nat} (h : Mem B w b s n f) :
    Calls Try.prog 41 #[.pointer (some ⟨b, 0, none⟩)] w fun e w' => e = .returned (.int .i64 n) ∧ w' = w := by
  obtain ⟨⟨cap, hp, _⟩, _, _⟩ := h.rules
  clear h
  go_enter Try.func41, Try.ntmps41
  go_wp2
  go_ret
  exact ⟨rfl, rfl⟩
end Go.Proofs.Yteoblaopbhdneaa
