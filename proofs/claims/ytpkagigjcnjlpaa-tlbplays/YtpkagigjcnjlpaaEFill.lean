/- tlb.Fill. -/
import Derived.Test.YtpkagigjcnjlpaaEOps3
import Derived.Deep.RegionHeld3
namespace Go.Proofs.Ytpkagigjcnjlpaa
open Go.RowKit

def cut64 (l : List Ent) : List Ent := if l.length = 64 then without l 0 else l
def clashes (l : List Ent) (x : Ent) : Bool := l.any fun y => clashB y x
def fillL (l : List Ent) (x : Ent) : List Ent := if hasB l x then l else cut64 l ++ [x]
def fillK (l : List Ent) (k : Bool) (x : Ent) : Bool := if hasB l x then k else (k || clashes (cut64 l) x)

theorem Buf.break {B : Nat} {w : World} {p : Nat} {v : Value} {l : List Ent} {k : Bool} (b : Buf B w p v l k) : Buf B (w.setCell ⟨p, 1, none⟩ (.bool true)) p v l true ∧ Step w (w.setCell ⟨p, 1, none⟩ (.bool true)) p v v := by
  have h2 := grown_set w p 1 (.bool true)
  refine ⟨⟨b.base, ?_, ?_, b.len, b.may⟩, ?_⟩
  · have := heap_setCell_same w p 1 _ _ (.bool true) b.ptr
    simpa [Laid] using this
  · exact b.row.kept h2 (by right; exact fun e => b.apart e.symm)
  · exact ⟨h2.os, h2.tape, h2.output, h2.size, fun q hq hp' _ => h2.block q hq (by simpa using hp'), Or.inl rfl⟩
theorem Laid.step {w w' : World} {a p : Nat} {t : TypeId} {cs : Array Value} {v v' : Value} (h : Laid w a t cs) (s : Step w w' p v v') (hp : a ≠ p) (hv : some a ≠ v.ownBlock) : Laid w' a t cs := (s.block a h.lt hp hv).trans h

set_option maxHeartbeats 1000000 in
theorem fill_no (p : Nat) (x : Ent) (w : World) (hm : mayB x = false) :
    Calls Try.prog 17 #[.pointer (some ⟨p, 0, none⟩), ev x] w fun e w' => e = .returned errArg ∧ Below w.heap.size w w' := by
  have hM := mayBe_any x
  rw [hm] at hM
  have B1 : Below w.heap.size w (w.alloc (.cells (ecells x) 26)) := (Below.refl _ _).alloc (Nat.le_refl _) _
  have HB : Hid (Below w.heap.size w (w.alloc (.cells (ecells x) 26))) := B1
  clear B1 hm
  unfold ev at *
  go_enter Try.func17, Try.ntmps17
  go_wp2_with (go_at_call 30; refine (hM _).mono ?_; rintro e w1 ⟨rfl, hb⟩)
  go_ret
  exact ⟨rfl, below_call HB.out (by simp) hb⟩

set_option maxRecDepth 100000 in
set_option maxHeartbeats 2000000 in
theorem fill_has {B : Nat} {w : World} {p : Nat} {v : Value} {l : List Ent} {k : Bool} (b : Buf B w p v l k) (x : Ent) (hm : mayB x = true) (hh : hasB l x = true) :
    Calls Try.prog 17 #[.pointer (some ⟨p, 0, none⟩), ev x] w fun e w' => e = .returned .nilIface ∧ Below w.heap.size w w' := by
  have hM := mayBe_any x
  rw [hm] at hM
  have B1 : Below w.heap.size w (w.alloc (.cells (ecells x) 26)) := (Below.refl _ _).alloc (Nat.le_refl _) _
  have X1 := Laid.new w 26 (ecells x)
  have b1 := b.below B1
  have H1 : Hid (Below w.heap.size w (w.alloc (.cells (ecells x) 26)) ∧ Laid (w.alloc (.cells (ecells x) 26)) w.heap.size 26 (ecells x) ∧ Buf B (w.alloc (.cells (ecells x) 26)) p v l k) := ⟨B1, X1, b1⟩
  clear B1 X1 b1 b hm
  unfold ev at *
  go_enter Try.func17, Try.ntmps17
  go_wp2_with fail
  refine (hM _).mono ?_
  rintro e w1 ⟨rfl, hb⟩
  obtain ⟨B1, X1, b1⟩ := H1.out
  have L1 := below_call B1 (by simp) hb
  have b2 := b1.below hb
  obtain ⟨x0, x1, x2, x3, x4, x5⟩ := (X1.below hb).ent
  obtain ⟨b0, -⟩ := b2.cells
  have hC := contains_any (w := w1.drew) (B := B) (v := v) (l := l) b2.row b2.len x
  rw [hh] at hC
  have hlt : w.heap.size < w1.heap.size := (X1.below hb).lt
  have hpl := b2.ptr.lt
  clear hb b1 B1 X1 b2 H1 hM
  unfold ev at hC
  go_wp2_with fail
  go_region_held3 (fun w' => w'.cell? ⟨p, 0, none⟩ = some v ∧ w'.cell? ⟨w.heap.size, 0, none⟩ = some (.int .i64 x.asid) ∧ w'.cell? ⟨w.heap.size, 1, none⟩ = some (.int .i64 x.first) ∧ w'.cell? ⟨w.heap.size, 2, none⟩ = some (.int .i64 x.order) ∧ w'.cell? ⟨w.heap.size, 3, none⟩ = some (.int .i64 x.base) ∧ w'.cell? ⟨w.heap.size, 4, none⟩ = some (.bool x.writ) ∧ w'.cell? ⟨w.heap.size, 5, none⟩ = some (.bool x.exe)) (go_keep) (first | (go_at_call 33; refine hC.mono ?_; rintro e w2 ⟨rfl, hb2⟩; have hc2 : ∀ o, w2.cell? ⟨w.heap.size, o, none⟩ = w1.cell? ⟨w.heap.size, o, none⟩ := fun o => (bcell hb2).1 _ _ hlt; have hc3 : ∀ o, w2.cell? ⟨p, o, none⟩ = w1.cell? ⟨p, o, none⟩ := fun o => (bcell hb2).1 _ _ hpl))
  go_wp2
  go_ret
  exact ⟨rfl, L1.drew.trans (hb2.mono (by show w.heap.size ≤ w1.heap.size; omega))⟩
#print axioms fill_has
end Go.Proofs.Ytpkagigjcnjlpaa
