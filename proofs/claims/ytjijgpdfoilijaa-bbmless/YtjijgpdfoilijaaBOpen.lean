/- An opening that is made: bbm.opened. -/
import Derived.Test.YtjijgpdfoilijaaBDelW
import Derived.Laws.MakeOwn
namespace Go.Proofs.Ytjijgpdfoilijaa
open Go.RowKit

theorem two_pow_order {l : Int} (h : lvlB l = true) : (2 : Int) ^ ((3 - l) * 3).toNat = ((manyN l : Nat) : Int) := by
  rcases lvl_cases h with rfl | rfl | rfl | rfl <;> simp [manyN]
theorem left_rep (n : Nat) : leftN (List.replicate n false) = n := by
  simp [leftN, List.countP_replicate]
def OpenPost (a l f : Int) (x : Nat) (w : World) (e : Ending) (w' : World) : Prop :=
  ∃ y : Opn, e = .returned (.pointer (some ⟨y.o, 0, none⟩)) ∧ OpnAt w' y ∧ y.asid = a ∧ y.first = f ∧ y.last = x ∧ y.told = List.replicate (manyN l) false ∧ w.heap.size ≤ y.o ∧ w.heap.size ≤ y.r ∧ Below w.heap.size w w'
theorem made_bools (n : Nat) : madeCells #[.bool false] n = tcells (List.replicate n false) := by
  unfold madeCells tcells
  apply Array.ext'
  simp
  apply List.ext_getElem?
  intro i
  by_cases h : i < n
  · simp [h, Nat.mod_one]
  · simp [h]
set_option maxHeartbeats 1000000 in
theorem opened_any (a l f : Int) (x : Nat) (w : World) (h : lvlB l = true) (hf0 : 0 ≤ f) (hf1 : f ≤ 4095) (hx : x < 18446744073709551616) :
    Calls Try.prog 24 #[.int .i64 a, .int .i64 l, .int .i64 f, .int .u64 x] w (OpenPost a l f x w) := by
  have ho := fun w => orderOf_any l w h
  have hp := two_pow_order h
  obtain ⟨b1, b2⟩ := many_bd h
  obtain ⟨l0, l3⟩ := lvlB_true h
  obtain ⟨i0, hi, hz0, hz1, hz2⟩ := info_parts (P := Try.prog) (e := 4) (z := .bool false) (size := 1) (bytes := 1) (by kernel_rfl)
  have hmk : ∀ w : World, (Instr.makeSlice 59 (.int .i64 (manyN l : Nat)) (.int .i64 (manyN l : Nat))).run Try.prog w = .ok (.slice (some ⟨w.heap.size, 0, none⟩) (manyN l) (manyN l)) (w.alloc (.cells (tcells (List.replicate (manyN l) false)) 4)) := by
    intro w
    have := run_make (P := Try.prog) w 59 4 i0 _ Try.underlying59 hi hz0 .i64 .i64 (manyN l : Nat) (manyN l : Nat) (by omega) (by omega) (by rw [hz2]; omega) (by omega)
    rw [this, hz1]
    simp [Value.cells, made_bools]
  have hsh : IntKind.i64.wrap (1 * 2 ^ ((3 - l) * 3).toNat) = ((manyN l : Nat) : Int) := by rw [Int.one_mul, hp]; exact IntWalk.i64_in _ (by omega)
  have hsh' : IntKind.i64.wrap (2 ^ ((3 - l) * 3).toNat) = ((manyN l : Nat) : Int) := by rw [hp]; exact IntWalk.i64_in _ (by omega)
  have ho0 : (0 : Int) ≤ (3 - l) * 3 := by omega
  have ho1 : (3 - l) * 3 < 64 := by omega
  have hlr := left_rep (manyN l)
  have HQ : Hid (OpenPost a l f x w (.returned (.pointer (some ⟨w.heap.size + 1, 0, none⟩))) ((w.alloc (.cells (tcells (List.replicate (manyN l) false)) 4)).alloc (.cells #[.int .i64 a, .int .i64 f, .int .u64 x, .slice (some ⟨w.heap.size, 0, none⟩) (manyN l) (manyN l), .int .i64 (manyN l)] 61))) := by
    refine ⟨⟨w.heap.size + 1, w.heap.size, a, f, x, List.replicate (manyN l) false⟩, rfl, ⟨?_, ?_, by simpa using b2, hf0, hf1, hx⟩, rfl, rfl, rfl, rfl, by simp, by simp, ((Below.refl _ _).alloc (Nat.le_refl _) _).alloc (by simp) _⟩
    · have := Laid.new (w.alloc (.cells (tcells (List.replicate (manyN l) false)) 4)) 61 #[.int .i64 a, .int .i64 f, .int .u64 x, .slice (some ⟨w.heap.size, 0, none⟩) (manyN l) (manyN l), .int .i64 (manyN l)]
      have e : (w.alloc (.cells (tcells (List.replicate (manyN l) false)) 4)).heap.size = w.heap.size + 1 := by simp
      rw [e] at this
      simpa [ocells, hlr] using this
    · have := Laid.new w 4 (tcells (List.replicate (manyN l) false))
      exact this.kept (World.grownBy_alloc _ _ none) (by simp)
  clear h hi hz0 hz1 hz2 hp hlr b1 hf0 hf1
  generalize manyN l = n at *
  go_enter Try.func24, Try.ntmps24
  go_wp2_with (go_at_call 33; refine (ho _).mono ?_; rintro e w1 ⟨rfl, hw⟩; obtain rfl := hw.symm; clear hw)
  go_ret
  exact HQ.out
end Go.Proofs.Ytjijgpdfoilijaa
