/- What every text of a seat may lean on: answers, frames, structs that lie as variables of their own. -/
import Derived.Test.YtoimmapdkapheaaRows
import Derived.WalkKit
import Derived.WalkSpells
import Derived.WalkLawsBesides
import Derived.BigQuiet
import Derived.Deep.QuietTactic
import Derived.Below
import Derived.Lib.IfaceEq
import Derived.Lib.IfaceNeq
namespace Go.Proofs.Ytoimmapdkapheaa
set_option maxRecDepth 4000
open Go.RowKit

theorem ret_bool {a b : Bool} (h : a = b) : Ending.returned (.bool a) = .returned (.bool b) := by rw [h]
theorem ret_int {k : IntKind} {a b : Int} (h : a = b) : Ending.returned (.int k a) = .returned (.int k b) := by rw [h]
theorem cell_alloc_old {w : World} {b : Nat} (h : b < w.heap.size) (o : Nat) (v : Obj) : (w.alloc v).cell? ⟨b, o, none⟩ = w.cell? ⟨b, o, none⟩ :=
  World.cell?_of_block (Below.heap_alloc w v b h)
theorem bcell {W w1 : World} (hb : Below W.heap.size W w1) : (∀ b o, b < W.heap.size → w1.cell? ⟨b, o, none⟩ = W.cell? ⟨b, o, none⟩) ∧ (∀ b o, b < W.heap.size → w1.frozen? ⟨b, o, none⟩ = W.frozen? ⟨b, o, none⟩) :=
  ⟨fun b o h => hb.cell (p := ⟨b, o, none⟩) h, fun b o h => hb.frozen (p := ⟨b, o, none⟩) h⟩
/-- The world behind a call that makes memory alone, all of it told from the first one. -/
theorem below_call {B : Nat} {a W w1 : World} (h : Below B a W) (hz : B ≤ W.heap.size) (hb : Below W.heap.size W w1) : Below B a w1 := h.trans (hb.mono hz)
theorem below_new {B : Nat} {a W w1 : World} {v : Obj} (h : Below B a W) (hz : B ≤ W.heap.size) (hb : Below (W.alloc v).heap.size (W.alloc v) w1) : Below B a w1 :=
  (h.alloc hz v).trans (hb.mono (by simp; omega))
theorem eq_err (n : Int) (w : World) : (binOp .eql 41 (.iface 48 (.int .i64 n)) (.iface 48 (.int .i64 n))).run Try.prog w = .ok (.bool true) w := by
  have := Lib.run_eql_iface_int (P := Try.prog) w (t := 41) (tx := 48) (k := .i64) n n Try.underlying41 (by kernel_rfl) Try.underlying48
  rw [beq_self_eq_true] at this
  exact this

/-- What holds below B behind a call that writes a row of the call's own. -/
theorem below_row {B : Nat} {a w w' : World} {s : Nat} (h : Below B a w) (hz : B ≤ w.heap.size) (hg : w.grownBy w' (some s)) (hs : B ≤ s) : Below B a w' :=
  h.grown hg hz fun k hk => by cases hk; exact hs

theorem below_call' {a W w1 : World} (h : Below a.heap.size a W) (hb : Below W.heap.size W w1) : Below a.heap.size a w1 := h.trans (hb.mono h.size)
theorem neq_err (n : Int) (w : World) : (binOp .neq 41 (.iface 48 (.int .i64 n)) (.iface 48 (.int .i64 n))).run Try.prog w = .ok (.bool false) w := by
  have := Lib.run_neq_iface_int (P := Try.prog) w (t := 41) (tx := 48) (k := .i64) n n Try.underlying41 (by kernel_rfl) Try.underlying48
  simpa using this
theorem frozen_alloc_old {w : World} {b : Nat} (h : b < w.heap.size) (o : Nat) (v : Obj) : (w.alloc v).frozen? ⟨b, o, none⟩ = w.frozen? ⟨b, o, none⟩ :=
  World.frozen?_of_block (Below.heap_alloc w v b h)
def Thaw (w : World) (b : Nat) : Prop := b < w.heap.size ∧ ∀ o, w.frozen? ⟨b, o, none⟩ = false
theorem Thaw.old {w : World} {b : Nat} (h : Thaw w b) (v : Obj) : Thaw (w.alloc v) b :=
  ⟨by simp; have := h.1; omega, fun o => by rw [frozen_alloc_old h.1]; exact h.2 o⟩
theorem Thaw.below {W w1 : World} {b : Nat} (h : Thaw W b) (hb : Below W.heap.size W w1) : Thaw w1 b :=
  ⟨by have := hb.size; have := h.1; omega, fun o => by rw [(bcell hb).2 b o h.1]; exact h.2 o⟩
theorem Thaw.rules {w : World} {b : Nat} (h : Thaw w b) : (∀ o v, (w.alloc v).frozen? ⟨b, o, none⟩ = w.frozen? ⟨b, o, none⟩) ∧ ∀ o, w.frozen? ⟨b, o, none⟩ = false :=
  ⟨fun o v => frozen_alloc_old h.1 o v, h.2⟩
theorem ne_of_tag {w : World} {a b : Nat} {c c' : Array Value} {t t' : TypeId} {fr fr' : Nat × Nat} (h : w.heap[a]? = some (.cells c t fr)) (h' : w.heap[b]? = some (.cells c' t' fr')) (ht : t ≠ t') : a ≠ b := by
  intro e
  subst e
  rw [h] at h'
  simp at h'
  exact ht h'.2.1
/-- A struct of cells cs that lies at block b. -/
def Laid (w : World) (b : Nat) (t : TypeId) (cs : Array Value) : Prop := w.heap[b]? = some (.cells cs t (0, 0))
theorem Laid.lt {w : World} {b : Nat} {t : TypeId} {cs : Array Value} (h : Laid w b t cs) : b < w.heap.size := (Array.getElem?_eq_some_iff.1 h).1
theorem Laid.below {w w' : World} {b : Nat} {t : TypeId} {cs : Array Value} (h : Laid w b t cs) (hb : Below w.heap.size w w') : Laid w' b t cs := (hb.block b h.lt).trans h
theorem Laid.kept {w w' : World} {b : Nat} {t : TypeId} {cs : Array Value} {row : Option Nat} (h : Laid w b t cs) (hg : w.grownBy w' row) (hr : some b ≠ row) : Laid w' b t cs := (hg.block b h.lt hr).trans h
theorem Laid.cell {w : World} {b : Nat} {t : TypeId} {cs : Array Value} (h : Laid w b t cs) (j : Nat) : w.cell? ⟨b, j, none⟩ = cs[j]? := cell_of_row w b j cs t (0, 0) h
theorem Laid.new (w : World) (t : TypeId) (cs : Array Value) : Laid (w.alloc (.cells cs t)) w.heap.size t cs := heap_alloc_new w _
end Go.Proofs.Ytoimmapdkapheaa
