/- slices.Clone and slices.Delete over rows of one kind of record. -/
import Derived.Test.YtoimmapdkapheaaFAr
import Derived.Test.YtoimmapdkapheaaZRow4
import Derived.Test.YtoimmapdkapheaaZ
import Derived.Lib.Slices
import Derived.Deep.RegionLaw
namespace Go.Proofs.Ytoimmapdkapheaa
set_option maxRecDepth 4000
open Go.RowKit

theorem heap_alloc2_rAAr (w : World) (o : Obj) : (w.alloc o).heap.size = w.heap.size + 1 := by simp

/-- What Clone tells: a row of its own. -/
def ClonePrAAr (w : World) (l : List AAr) (e : Ending) (w' : World) : Prop := ∃ v', e = .returned v' ∧ Row rAAr w.heap.size w' v' l ∧ Below w.heap.size w w'
set_option maxRecDepth 100000 in
set_option maxHeartbeats 2000000 in
theorem clone_rAAr {B : Nat} {w : World} {v : Value} {l : List AAr} (hown : Row rAAr B w v l) (hm : l.length ≤ 4096) :
    Calls Try.prog 47 #[v] w (ClonePrAAr w l) := by
  have q22 : ∀ (w : World) (a : Option Addr) (n c n' c' : Nat), (binOp .eql 51 (.slice a n c) (.slice none n' c')).run Try.prog w = .ok (.bool a.isNone) w := fun w a n c n' c' => Lib.run_eql_slice_nil w _ _ a n c n' c' Try.underlying51
  rcases hown.cases with ⟨rfl, rfl⟩ | ⟨g, c, cur, rfl, hB, hg0, hg, hlc, hcm, hs, hh⟩
  · go_enter Try.func47, Try.ntmps47
    go_wp2
    go_ret
    exact ⟨_, rfl, Row.nil _ _ _, Below.refl _ _⟩
  · have hcm' : c ≤ 9223372036854775807 := by unfold maxLen at hcm; omega
    have HS : Hid (Seen rAAr (w.alloc (.cells #[] 55)) (some ⟨g, 0, none⟩) c l) := hown.seen.2.below ((Below.refl _ _).alloc (Nat.le_refl _) _)
    have HR0 : Hid (Row rAAr w.heap.size (w.alloc (.cells #[] 55)) (.slice (some ⟨w.heap.size, 0, none⟩) 0 0) []) := World.ownsRow_made w #[] 0 (Nat.le_refl _) (Nat.zero_le _) (by simp)
    clear hown hh hs hcm hB
    go_enter Try.func47, Try.ntmps47
    go_wp2_with (at_builtin; refine list_app rAAr.kin rfl _ _ rfl w.heap.size _ [] l rfl HR0.out (some ⟨g, 0, none⟩) l.length c rfl rfl HS.out ?c3 ?c4 ?c5 ?_)
    case c3 => simp [maxLen]; omega
    case c4 => simp [rAAr]; omega
    case c5 => simp
    intro v' w1 ho hgrow
    have HO : Hid (Row rAAr w.heap.size w1 v' l) := ho
    clear ho
    go_wp2
    go_ret
    exact ⟨v', rfl, HO.out, ((Below.refl _ w).alloc (Nat.le_refl _) _).grown hgrow (by simp) (by intro k hk; simp [Value.ownBlock] at hk; omega)⟩

/-- What Delete, Insert and Replace tell: the row that was, turned, or a new one. -/
def TurnPrAAr (w : World) (B : Nat) (v : Value) (l : List AAr) (e : Ending) (w' : World) : Prop := ∃ v', e = .returned v' ∧ Row rAAr B w' v' l ∧ Keeps w w' (fun b => v.ownBlock = some b) ∧ ∀ g, v'.ownBlock = some g → v.ownBlock = some g ∨ w.heap.size ≤ g
/-- What Delete tells, to the block. -/
def DelPrAAr (w : World) (B g c : Nat) (l : List AAr) (e : Ending) (w' : World) : Prop := e = .returned (.slice (some ⟨g, 0, none⟩) l.length c) ∧ Row rAAr B w' (.slice (some ⟨g, 0, none⟩) l.length c) l ∧ Keeps w w' (fun b => b = g)
theorem keeps_own {w w' : World} {g n c : Nat} (h : Keeps w w' (fun b => b = g)) : Keeps w w' (fun b => (Value.slice (some ⟨g, 0, none⟩) n c).ownBlock = some b) := h.mono fun b _ e => by
  subst e
  rfl
theorem keeps_drew {w w' : World} {s : Nat → Prop} (h : Keeps w.drew w' s) : Keeps w w' s := ⟨h.os, h.tape, h.output, h.size, h.block⟩

end Go.Proofs.Ytoimmapdkapheaa
