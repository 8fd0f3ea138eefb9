/- 'make([]T, n)': a row of zeros. No word of the program. -/
import Derived.Test.YtoimmapdkapheaaZRow2
import Derived.Laws.MakeOwn
namespace Go.Proofs.Ytoimmapdkapheaa
set_option maxRecDepth 4000
open Go.RowKit

theorem made_at (zc : Array Value) (m j : Nat) (h : j < m) : (madeCells zc m)[j]? = some (zc[j % zc.size]!) := by
  unfold madeCells
  rw [Array.getElem?_map, Array.getElem?_range, if_pos h]
  rfl
section
variable {P : Program} {α : Type} {R : Rec α} {s : TypeId}
theorem run_makeR (k : Kin P R s) (hz : ∀ i z, P.info? R.t = some i → i.zero = some z → z.cells = (R.cells R.zero).toArray) (w : World) (n : Nat) (hm : n ≤ maxLen) (hb : R.bytes * n ≤ 281474976710656) :
    ∃ cs : Array Value, (Instr.makeSlice s (.int .i64 n) (.int .i64 n)).run P w = .ok (.slice (some ⟨w.heap.size, 0, none⟩) n n) (w.alloc (.cells cs R.t)) ∧ Row R w.heap.size (w.alloc (.cells cs R.t)) (.slice (some ⟨w.heap.size, 0, none⟩) n n) (List.replicate n R.zero) := by
  obtain ⟨i, z, hi, hz0, hz1, hz2, hzs⟩ := k.inf
  have hzc := hz i z hi hz0
  have hb' : (i.bytes : Int) * (n : Int) ≤ 281474976710656 := by
    have h : ((i.bytes * n : Nat) : Int) ≤ 281474976710656 := by rw [hz2]; omega
    rwa [Int.natCast_mul] at h
  have hr := run_make (P := P) w s R.t i z k.und hi hz0 .i64 .i64 n n (by omega) (Int.le_refl _) hb' (by unfold maxLen at hm; omega)
  simp only [Int.toNat_natCast] at hr
  refine ⟨_, hr, ?_⟩
  have hlen : (List.replicate n R.zero).length = n := by simp
  have := Row.of_cells (R := R) (B := w.heap.size) (w' := w.alloc (.cells (madeCells z.cells (n * i.size)) R.t)) (g := w.heap.size) (c := n) (l' := List.replicate n R.zero) (Nat.le_refl _) (heap_alloc_new w _) (by rw [hlen]; exact Nat.le_refl _) hm (by rw [size_madeCells, hz1]) (by
    intro q hq j hj
    rw [hlen] at hq
    have hlt : q * R.n + j < n * R.n := by
      have : (q + 1) * R.n ≤ n * R.n := Nat.mul_le_mul_right _ hq
      rw [Nat.add_mul] at this
      omega
    rw [hz1, made_at _ _ _ hlt, hzc]
    have e1 : (q * R.n + j) % (R.cells R.zero).toArray.size = j := by
      rw [List.size_toArray, R.len, Nat.mul_comm, Nat.mul_add_mod, Nat.mod_eq_of_lt hj]
    rw [e1, List.getD_eq_getElem?_getD, List.getElem?_replicate, if_pos hq, Option.getD_some]
    have hjl : j < (R.cells R.zero).length := by rw [R.len]; exact hj
    rw [List.getElem?_eq_getElem hjl]
    simp [hjl])
  rwa [hlen] at this
end
end Go.Proofs.Ytoimmapdkapheaa
