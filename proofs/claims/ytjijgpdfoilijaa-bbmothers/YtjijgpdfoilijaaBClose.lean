/- A valid word comes again: (*Watch).close. -/
import Derived.Test.YtjijgpdfoilijaaBTold
import Derived.Test.YtjijgpdfoilijaaBSay
namespace Go.Proofs.Ytjijgpdfoilijaa
open Go.RowKit

/-- Does the new word break what was open there? -/
def clashB (l : Gaps) (s : Int × Int) (lvl : Int) (x : Nat) : Bool := match getL l s with | some y => !alikeB (saysD lvl y.last) (saysD lvl x) | none => false
theorem getL_mem {l : Gaps} {s : Int × Int} {y : Opn} (h : getL l s = some y) : (s, y) ∈ l := by
  unfold getL at h
  cases hf : l.find? (fun p => decide (p.1 = s)) with
  | none => rw [hf] at h; simp at h
  | some p =>
    rw [hf] at h
    simp at h
    have h1 := List.find?_some hf
    have h2 := List.mem_of_find?_eq_some hf
    have h3 : p.1 = s := by simpa using h1
    rw [← h3, ← h]
    exact h2
theorem getL_no {l : Gaps} {s : Int × Int} (h : getL l s = none) : ∀ p ∈ l, p.1 ≠ s := by
  intro p hp e
  unfold getL at h
  have := List.find?_eq_none.1 (Option.map_eq_none_iff.1 h) p hp
  simp [e] at this
/-- The watch is broken now. -/
theorem Wat.broke {F : Nat → Prop} {w : World} {b m : Nat} {br : Bool} {l : Gaps} (h : Wat F w b m br l) (v : Bool) : Wat F (w.setCell ⟨b, 1, none⟩ (.bool v)) b m v l := by
  have hk := Keeps.set w b 1 (.bool v)
  have hm : m ≠ b := h.mp.ne h.box
  refine ⟨?_, h.mp.same (hk.block _ h.mp.lt hm), fun p hp => (h.op p hp).keeps hk (fun e => ne_of_tag (h.op p hp).box h.box (by decide) e) (fun e => ne_of_tag (h.op p hp).row h.box (by decide) e), h.apart, h.fb, h.fm, h.fo, fun c hc => Nat.lt_of_lt_of_le (h.lt c hc) hk.size⟩
  refine (heap_setCell_same w b 1 _ _ (.bool v) h.box).trans ?_
  simp

section
variable {F : Nat → Prop} {w : World} {b m : Nat} {br : Bool} {l : Gaps}
theorem zeroOpn (w : World) : (zeroValue 55).run Try.prog w = .ok (.pointer none) w := by kernel_rfl
set_option maxHeartbeats 1000000 in
theorem close_none (h : Wat F w b m br l) (s : Int × Int) (hs : slotOk s) (lvl : Int) (x : Nat) (hn : getL l s = none) :
    Calls Try.prog 25 #[.pointer (some ⟨b, 0, none⟩), slotV s, .int .i64 lvl, .int .u64 x] w (WPost F w b m br (delL l s)) := by
  rw [delL_none (getL_no hn)]
  have kb : Below w.heap.size w (w.alloc (.cells #[.int .i64 s.1, .int .i64 s.2] 53)) := (Below.refl _ _).alloc (Nat.le_refl _) _
  have h' := h.below kb
  have hl := fun n => (h'.drewN n).mp.look (a := s) hs (zeroOpn _)
  rw [hn] at hl
  simp only [slotM, slotV] at hl
  obtain ⟨c0, -, -⟩ := h'.cells
  have HW : Hid (Wat F (w.alloc (.cells #[.int .i64 s.1, .int .i64 s.2] 53)) b m br l) := h'
  have HK : Hid (Below w.heap.size w (w.alloc (.cells #[.int .i64 s.1, .int .i64 s.2] 53))) := kb
  unfold slotV
  clear h h' kb
  go_enter Try.func25, Try.ntmps25
  go_wp2_with fail
  go_quiet (fail)
  go_wp2
  go_end0
  exact ⟨rfl, HW.out.drewN _, (Keeps.of_below HK.out F).drewN _⟩
set_option maxHeartbeats 2000000 in
theorem close_some (h : Wat F w b m br l) (s : Int × Int) (hs : slotOk s) (lvl : Int) (hlv : lvlB lvl = true) (x : Nat) (hx : x < 18446744073709551616) (y : Opn) (hn : getL l s = some y) :
    Calls Try.prog 25 #[.pointer (some ⟨b, 0, none⟩), slotV s, .int .i64 lvl, .int .u64 x] w (WPost F w b m (br || !alikeB (saysD lvl y.last) (saysD lvl x)) (delL l s)) := by
  have hy := h.op _ (getL_mem hn)
  have kb : Below w.heap.size w (w.alloc (.cells #[.int .i64 s.1, .int .i64 s.2] 53)) := (Below.refl _ _).alloc (Nat.le_refl _) _
  have h' := h.below kb
  have hl := fun n => (h'.drewN n).mp.look (a := s) hs (zeroOpn _)
  rw [hn] at hl
  simp only [slotM, slotV] at hl
  obtain ⟨c0, -, -⟩ := h'.cells
  have y2 : (w.alloc (.cells #[.int .i64 s.1, .int .i64 s.2] 53)).cell? ⟨y.o, 2, none⟩ = some (.int .u64 y.last) := by rw [cell_alloc_old hy.box.lt, hy.box.cell]; rfl
  have hq := fun w => sayAlike_any lvl y.last x w hy.u hx hlv
  generalize alikeB (saysD lvl y.last) (saysD lvl x) = r at *
  have L0 : Laid (w.alloc (.cells #[.int .i64 s.1, .int .i64 s.2] 53)) w.heap.size 53 #[.int .i64 s.1, .int .i64 s.2] := Laid.new _ _ _
  have HL : Hid (Laid (w.alloc (.cells #[.int .i64 s.1, .int .i64 s.2] 53)) w.heap.size 53 #[.int .i64 s.1, .int .i64 s.2]) := L0
  have HW : Hid (Wat F (w.alloc (.cells #[.int .i64 s.1, .int .i64 s.2] 53)) b m br l) := h'
  have HK : Hid (Below w.heap.size w (w.alloc (.cells #[.int .i64 s.1, .int .i64 s.2] 53))) := kb
  have HS : Hid (slotOk s) := hs
  unfold slotV
  clear h h' kb hs hy L0 hn
  cases r with
  | true =>
    rw [show (br || !true) = br by simp]
    go_enter Try.func25, Try.ntmps25
    go_wp2_with fail
    go_quiet (fail)
    go_wp2_with fail
    refine (hq _).mono ?_
    rintro e w2 ⟨rfl, hb2⟩
    have W2 := (HW.out.drewN nq).below hb2
    have L2 : Laid w2 w.heap.size 53 #[.int .i64 s.1, .int .i64 s.2] := (HL.out.kept ⟨rfl, rfl, rfl, Nat.le_refl _, fun _ _ _ => rfl⟩ (row := none) (by simp) : Laid ((w.alloc (.cells #[.int .i64 s.1, .int .i64 s.2] 53)).drewN nq) _ _ _).below hb2
    have K2 : Keeps w w2 F := ((Keeps.of_below HK.out F).drewN nq).trans (Keeps.of_below hb2 F) fun _ _ e => e
    clear hb2 hl c0 y2 hq HL HW HK
    obtain ⟨w3, hrun, hmp3, ht3⟩ := W2.drew.mp.drop HS.out 0
    simp only [slotM, slotV] at hrun
    obtain ⟨c0, -, -⟩ := W2.cells
    have q0 : w2.cell? ⟨w.heap.size, 0, none⟩ = some (.int .i64 s.1) := by rw [L2.cell]; rfl
    have q1 : w2.cell? ⟨w.heap.size, 1, none⟩ = some (.int .i64 s.2) := by rw [L2.cell]; rfl
    have HF : Hid (WPost F w b m br (delL l s) (.returned (.tuple #[])) w3) := ⟨rfl, W2.drew.struck hmp3 ht3, K2.drew.trans (W2.drew.struckK ht3) fun _ _ e => e⟩
    clear W2 L2 K2 hmp3 ht3
    go_wp2
    go_region
    go_wp2
    go_end0
    exact HF.out
  | false =>
    rw [show (br || !false) = true by simp]
    go_enter Try.func25, Try.ntmps25
    go_wp2_with fail
    go_quiet (fail)
    go_wp2_with fail
    refine (hq _).mono ?_
    rintro e w2 ⟨rfl, hb2⟩
    have W2 := (HW.out.drewN nq).below hb2
    have L2 : Laid w2 w.heap.size 53 #[.int .i64 s.1, .int .i64 s.2] := (HL.out.kept ⟨rfl, rfl, rfl, Nat.le_refl _, fun _ _ _ => rfl⟩ (row := none) (by simp) : Laid ((w.alloc (.cells #[.int .i64 s.1, .int .i64 s.2] 53)).drewN nq) _ _ _).below hb2
    have K2 : Keeps w w2 F := ((Keeps.of_below HK.out F).drewN nq).trans (Keeps.of_below hb2 F) fun _ _ e => e
    clear hb2 hl c0 y2 hq HL HW HK
    have W3 := W2.broke true
    obtain ⟨w3, hrun, hmp3, ht3⟩ := W3.drew.mp.drop HS.out 0
    simp only [slotM, slotV] at hrun
    obtain ⟨c0, c1, z1⟩ := W2.cells
    have q0 : w2.cell? ⟨w.heap.size, 0, none⟩ = some (.int .i64 s.1) := by rw [L2.cell]; rfl
    have q1 : w2.cell? ⟨w.heap.size, 1, none⟩ = some (.int .i64 s.2) := by rw [L2.cell]; rfl
    have hne : w.heap.size ≠ b := ne_of_tag L2 W2.box (by decide)
    have K3 : Keeps w (w2.setCell ⟨b, 1, none⟩ (.bool true)) F := K2.trans (Keeps.set _ _ _ _) fun c _ e => by rw [e]; exact W2.fb
    have HF : Hid (WPost F w b m true (delL l s) (.returned (.tuple #[])) w3) := ⟨rfl, W3.drew.struck hmp3 ht3, K3.drew.trans (W3.drew.struckK ht3) fun _ _ e => e⟩
    clear W2 L2 K2 hmp3 ht3 W3 K3
    go_wp2
    go_region
    go_wp2
    go_end0
    exact HF.out
theorem close_any (h : Wat F w b m br l) (s : Int × Int) (hs : slotOk s) (lvl : Int) (hlv : lvlB lvl = true) (x : Nat) (hx : x < 18446744073709551616) :
    Calls Try.prog 25 #[.pointer (some ⟨b, 0, none⟩), slotV s, .int .i64 lvl, .int .u64 x] w (WPost F w b m (br || clashB l s lvl x) (delL l s)) := by
  unfold clashB
  cases hn : getL l s with
  | none => simpa using close_none h s hs lvl x hn
  | some y => exact close_some h s hs lvl hlv x hx y hn
end
end Go.Proofs.Ytjijgpdfoilijaa
