/- Both worlds and a deed in its box: what do and same leave. -/
import Derived.Test.YtoimmapdkapheaaFDeed
import Derived.Test.YtoimmapdkapheaaFSm
import Derived.Test.YtoimmapdkapheaaFUp
namespace Go.Proofs.Ytoimmapdkapheaa
set_option maxRecDepth 4000
open Go.RowKit

def PlD (w : World) (b : Nat) (d : FDd) (p q : Nat) (W : World) : Prop := ∃ A, Bec (fun _ => False) w (Tri b d (FlT p A) (FmT q A)) W
theorem Plays.box {w W : World} {p q : Nat} (h : Plays w p q W) (d : FDd) : PlD w W.heap.size d p q (W.alloc (.cells d.arr 34)) := by
  obtain ⟨A, h⟩ := h
  exact ⟨A, h.new (box_new W _ _)⟩
section
variable {w W W' : World} {b p q : Nat} {d : FDd}
theorem PlD.drop (h : PlD w b d p q W) : Plays w p q W := by
  obtain ⟨A, h⟩ := h
  exact ⟨A, h.right⟩
theorem PlD.next (h : PlD w b d p q W) (hb : Below W.heap.size W W') : PlD w b d p q W' := by
  obtain ⟨A, h⟩ := h
  exact ⟨A, h.below hb⟩
theorem PlD.laid (h : PlD w b d p q W) : Laid W b 34 d.arr := by
  obtain ⟨A, h⟩ := h
  exact h.tri_box
theorem PlD.deed (h : PlD w b d p q W) (hok : d.ok) :
    Calls Try.prog 10 #[.pointer (some ⟨p, 0, none⟩), .pointer (some ⟨q, 0, none⟩), .agg d.arr] W fun e W' => e = .returned (.bool true) ∧ Hid (PlD w b d p q W') := by
  obtain ⟨A, h⟩ := h
  obtain ⟨G, h1, cl⟩ := (h.imp (and_comm _ _)).open
  obtain ⟨A', hd⟩ := do_any h1 hok
  exact hd.mono fun e w' hp => ⟨hp.1, A', (cl hp.2).imp (and_comm _ _)⟩
theorem Plays.same3 (h : Plays w p q W) (t : TypeId) (x y z : Int) (c : Nat) :
    Calls Try.prog 11 #[.pointer (some ⟨p, 0, none⟩), .pointer (some ⟨q, 0, none⟩), .slice (some ⟨W.heap.size, 0, none⟩) 3 c] (W.alloc (.cells #[.int .i64 x, .int .i64 y, .int .i64 z] t)) fun e W' => e = .returned (.bool true) ∧ Hid (Plays w p q W') := by
  have h' := h.next (new_below W (.cells #[.int .i64 x, .int .i64 y, .int .i64 z] t))
  obtain ⟨A, h2⟩ := h'
  obtain ⟨G, h1, -⟩ := h2.next
  have L := Laid.new W t #[.int .i64 x, .int .i64 y, .int .i64 z]
  refine (same_any (P := [x, y, z]) (cP := c) h1 (gP := W.heap.size) (by simp) (by simp) fun k hk => ?_).mono fun e w' hp => ⟨hp.1, A, h2.below hp.2.out⟩
  match k, hk with
  | 0, _ => exact L.cell 0
  | 1, _ => exact L.cell 1
  | 2, _ => exact L.cell 2
theorem Plays.same4 (h : Plays w p q W) (t : TypeId) (x y z u : Int) (c : Nat) :
    Calls Try.prog 11 #[.pointer (some ⟨p, 0, none⟩), .pointer (some ⟨q, 0, none⟩), .slice (some ⟨W.heap.size, 0, none⟩) 4 c] (W.alloc (.cells #[.int .i64 x, .int .i64 y, .int .i64 z, .int .i64 u] t)) fun e W' => e = .returned (.bool true) ∧ Hid (Below W.heap.size W W') := by
  have hb := new_below W (.cells #[.int .i64 x, .int .i64 y, .int .i64 z, .int .i64 u] t)
  obtain ⟨A, h2⟩ := h.next hb
  obtain ⟨G, h1, -⟩ := h2.next
  have L := Laid.new W t #[.int .i64 x, .int .i64 y, .int .i64 z, .int .i64 u]
  refine (same_any (P := [x, y, z, u]) (cP := c) h1 (gP := W.heap.size) (by simp) (by simp) fun k hk => ?_).mono fun e w' hp => ⟨hp.1, below_call' hb hp.2.out⟩
  match k, hk with
  | 0, _ => exact L.cell 0
  | 1, _ => exact L.cell 1
  | 2, _ => exact L.cell 2
  | 3, _ => exact L.cell 3
end
end Go.Proofs.Ytoimmapdkapheaa
