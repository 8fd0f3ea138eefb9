/- Rows of api.Run and of [2]int; the small functions of layer 7. -/
import Derived.Test.YtbpihdeinkopfaaDoorZRow3
import Derived.Test.YtbpihdeinkopfaaDoorUMath3
import Derived.Test.YtbpihdeinkopfaaDoorWAlign
import Derived.Test.YtbpihdeinkopfaaDoorWCut
namespace Go.Proofs.YtbpihdeinkopfaaDoor
open Go.RowKit

def bcells (b : Bk) : List Value := [.int .i64 b.1, .int .i64 b.2]
theorem bcells_one (b : Bk) : ∀ u ∈ bcells b, u.oneCell' = true := by
  intro u hu
  simp only [bcells, List.mem_cons, List.not_mem_nil, or_false] at hu
  rcases hu with rfl | rfl <;> rfl
def rB : Rec Bk := ⟨48, 2, 16, (0, 0), bcells, fun _ => rfl, by decide, bcells_one⟩
def rC : Rec Bk := ⟨66, 2, 16, (0, 0), bcells, fun _ => rfl, by decide, bcells_one⟩
theorem rB.kin : Kin Tryd.prog rB 46 := Kin.of (z := .agg #[.int .i64 0, .int .i64 0]) Tryd.underlying46 (by kernel_rfl) rfl
theorem rB.zone : ∀ i z, Tryd.prog.info? rB.t = some i → i.zero = some z → ∀ u ∈ z.cells, u.oneCell' = true := by
  intro i z hi hz
  have h : (Tryd.prog.info? 48).map (fun i => i.zero) = some (some (.agg #[.int .i64 0, .int .i64 0])) := by kernel_rfl
  rw [show Tryd.prog.info? 48 = some i from hi, Option.map_some, hz] at h
  simp at h
  subst h
  intro u hu
  simp [Value.cells] at hu
  subst hu
  rfl
theorem rB.at {w : World} {b o : Nat} {d : Bk} (h : At rB w b o d) : w.cell? ⟨b, o, none⟩ = some (.int .i64 d.1) ∧ w.cell? ⟨b, o + 1, none⟩ = some (.int .i64 d.2) := ⟨h 0 (by decide), h 1 (by decide)⟩
/-- A block as a value. -/
def bval (b : Bk) : Value := .agg #[.int .i64 b.1, .int .i64 b.2]

theorem below_drewN {B : Nat} {a w : World} (h : Below B a w) (n : Nat) : Below B a (w.drewN n) := ⟨h.os, h.tape, h.output, h.size, h.block⟩

set_option maxHeartbeats 1000000 in
theorem end_any (b : Bk) (w : World) (h1 : b.1 ≤ 1048576) (h5 : b.2 ≤ 20) :
    Calls Tryd.prog 33 #[bval b] w fun e w' => e = .returned (.int .i64 (bend b)) ∧ Below w.heap.size w w' := by
  have hp : (2 : Nat) ^ b.2 ≤ 1048576 := Nat.pow_le_pow_right (show 0 < 2 by decide) h5
  have e : ((2 ^ b.2 : Nat) : Int) = 2 ^ b.2 := by simp
  have hp0 : (0 : Int) ≤ 2 ^ b.2 := Int.le_of_lt (Int.pow_pos (by decide))
  have hp1 : (2 : Int) ^ b.2 ≤ 1048576 := by omega
  have hE : Hid (((2 ^ b.2 : Nat) : Int) = 2 ^ b.2) := e
  clear e hp
  unfold bval
  go_enter Tryd.func33, Tryd.ntmps33
  go_wp2
  go_quiet (fail)
  go_wp2
  go_ret
  refine ⟨ret_int ?_, ?_⟩
  · unfold bend
    have := hE.out
    omega
  · exact below_drewN (Below.alloc (Below.refl _ _) (Nat.le_refl _) _) _

theorem mayOrder_any (o : Int) (w : World) :
    Calls Tryd.prog 27 #[.int .i64 o] w fun e w' => e = .returned (.bool (decide (0 ≤ o ∧ o ≤ 5))) ∧ w' = w := by
  go_enter Tryd.func27, Tryd.ntmps27
  go_wp2
  all_goals (go_ret; refine ⟨ret_bool ?_, rfl⟩)
  all_goals simp
  all_goals omega
end Go.Proofs.YtbpihdeinkopfaaDoor
