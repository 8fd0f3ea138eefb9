/- BbmLess: the walk. -/
import Derived.Test.YtjijgpdfoilijaaBPure2
import Derived.Test.YtjijgpdfoilijaaBPick
import Derived.Test.YtjijgpdfoilijaaPRefMay
import Derived.Test.YtjijgpdfoilijaaBOthers
namespace Go.Proofs.Ytjijgpdfoilijaa
open Go.RowKit

def LessArgs (asid lvl t p f skip : Int) (a b : Dsc) : Array Value := #[.int .i64 asid, .int .i64 lvl, .int .i64 t, .int .i64 p, .int .i64 f, .int .i64 skip, dv a, dv b]
theorem desc_cells {w : World} {g : Nat} {d : Dsc} (h : Laid w g 37 (dcells d)) : w.cell? ⟨g, 0, none⟩ = some (.int .i64 d.kind) ∧ w.cell? ⟨g, 1, none⟩ = some (.int .i64 d.frame) ∧ w.cell? ⟨g, 2, none⟩ = some (.bool d.wr) ∧ w.cell? ⟨g, 3, none⟩ = some (.bool d.ex) ∧ w.cell? ⟨g, 4, none⟩ = some (.bool d.sn) ∧ w.cell? ⟨g, 5, none⟩ = some (.bool d.fo) ∧ w.cell? ⟨g, 6, none⟩ = some (.int .i64 d.so) ∧ ∀ o, w.frozen? ⟨g, o, none⟩ = false :=
  ⟨h.cell 0, h.cell 1, h.cell 2, h.cell 3, h.cell 4, h.cell 5, h.cell 6, fun o => frozen_of_row w g o _ _ h⟩
theorem less_boxes (a b : Dsc) (w W0 : World) (h : W0 = (w.alloc (.cells #[.int .i64 a.kind, .int .i64 a.frame, .bool a.wr, .bool a.ex, .bool a.sn, .bool a.fo, .int .i64 a.so] 37)).alloc (.cells #[.int .i64 b.kind, .int .i64 b.frame, .bool b.wr, .bool b.ex, .bool b.sn, .bool b.fo, .int .i64 b.so] 37)) :
    Hid (Laid W0 w.heap.size 37 (dcells a)) ∧ Hid (Laid W0 (w.heap.size + 1) 37 (dcells b)) ∧ Hid (Below w.heap.size w W0) ∧ Hid (W0.heap.size = w.heap.size + 2) := by
  rw [h]
  refine ⟨(Laid.new w _ (dcells a)).kept (World.grownBy_alloc _ _ none) (by simp), ?_, ((Below.refl _ _).alloc (Nat.le_refl _) _).alloc (by simp) _, by simp [Hid]⟩
  have e : (w.alloc (.cells #[.int .i64 a.kind, .int .i64 a.frame, .bool a.wr, .bool a.ex, .bool a.sn, .bool a.fo, .int .i64 a.so] 37)).heap.size = w.heap.size + 1 := by simp
  have := Laid.new (w.alloc (.cells #[.int .i64 a.kind, .int .i64 a.frame, .bool a.wr, .bool a.ex, .bool a.sn, .bool a.fo, .int .i64 a.so] 37)) 37 (dcells b)
  rw [e] at this
  exact this
theorem less_end {w W0 w' : World} (h : Below w.heap.size w W0) (hz : W0.heap.size = w.heap.size + 2) (hb : Below W0.heap.size W0 w') : Below w.heap.size w w' := h.trans (hb.mono (by omega))

set_option maxRecDepth 100000 in
set_option maxHeartbeats 4000000 in
theorem less_no0 (asid lvl t p f skip : Int) (a b : Dsc) (w : World) (h : mayW asid lvl t p f = false ∨ (mayW asid lvl t p f = true ∧ lvl = 0)) :
    Calls Try.prog 4 (LessArgs asid lvl t p f skip a b) w fun e w' => e = .returned (.bool true) ∧ Below w.heap.size w w' := by
  have hM := fun w => refMayW_any asid lvl t p f w
  have hMa := fun w => refMay_any lvl a w
  have hMb := fun w => refMay_any lvl b w
  obtain ⟨W0, hW0⟩ : ∃ W0, W0 = (w.alloc (.cells #[.int .i64 a.kind, .int .i64 a.frame, .bool a.wr, .bool a.ex, .bool a.sn, .bool a.fo, .int .i64 a.so] 37)).alloc (.cells #[.int .i64 b.kind, .int .i64 b.frame, .bool b.wr, .bool b.ex, .bool b.sn, .bool b.fo, .int .i64 b.so] 37) := ⟨_, rfl⟩
  obtain ⟨LA, LB, L0, hz0⟩ : Hid (Laid W0 w.heap.size 37 (dcells a)) ∧ Hid (Laid W0 (w.heap.size + 1) 37 (dcells b)) ∧ Hid (Below w.heap.size w W0) ∧ Hid (W0.heap.size = w.heap.size + 2) := less_boxes a b w W0 hW0
  unfold LessArgs dv at *
  rcases h with hm | ⟨hm, h⟩
  · rw [hm] at hM
    go_enter Try.func4, Try.ntmps4
    go_wp2_with fail
    rw [← hW0]
    clear hW0
    refine (upW_any _).mono ?_
    rintro e w1 ⟨rfl, hb1⟩
    go_wp2_with fail
    refine (oneNew hb1).mono ?_
    rintro e w2 ⟨c, m, rfl, h2⟩
    have G2 : Hid (One W0 w2 c m false []) := h2
    clear h2 hb1
    go_wp2_with fail
    refine (twoNew G2.out).mono ?_
    rintro e w3 ⟨c', m', rfl, h3⟩
    have G3 : Hid (Two W0 w3 c m false [] c' m' false []) := h3
    clear h3 G2
    go_wp2_with fail
    refine (hM _).mono ?_
    rintro e w4 ⟨rfl, hw⟩
    obtain rfl := hw.symm
    clear hw
    go_wp2
    go_ret
    exact ⟨rfl, less_end L0.out hz0.out G3.out.frame⟩
  · rw [hm] at hM
    subst h
    go_enter Try.func4, Try.ntmps4
    go_wp2_with fail
    rw [← hW0]
    clear hW0
    refine (upW_any _).mono ?_
    rintro e w1 ⟨rfl, hb1⟩
    go_wp2_with fail
    refine (oneNew hb1).mono ?_
    rintro e w2 ⟨c, m, rfl, h2⟩
    have G2 : Hid (One W0 w2 c m false []) := h2
    clear h2 hb1
    go_wp2_with fail
    refine (twoNew G2.out).mono ?_
    rintro e w3 ⟨c', m', rfl, h3⟩
    have G3 : Hid (Two W0 w3 c m false [] c' m' false []) := h3
    clear h3 G2
    go_wp2_with fail
    refine (hM _).mono ?_
    rintro e w4 ⟨rfl, hw⟩
    obtain rfl := hw.symm
    clear hw
    go_wp2
    go_ret
    exact ⟨rfl, less_end L0.out hz0.out G3.out.frame⟩

set_option maxRecDepth 100000 in
set_option maxHeartbeats 4000000 in
theorem less_no1 (asid lvl t p f skip : Int) (a b : Dsc) (w : World) (hm : mayW asid lvl t p f = true) (hl : lvl ≠ 0) (h : mayD lvl a = false ∨ (mayD lvl a = true ∧ mayD lvl b = false)) :
    Calls Try.prog 4 (LessArgs asid lvl t p f skip a b) w fun e w' => e = .returned (.bool true) ∧ Below w.heap.size w w' := by
  have hM := fun w => refMayW_any asid lvl t p f w
  have hMa := fun w => refMay_any lvl a w
  have hMb := fun w => refMay_any lvl b w
  obtain ⟨W0, hW0⟩ : ∃ W0, W0 = (w.alloc (.cells #[.int .i64 a.kind, .int .i64 a.frame, .bool a.wr, .bool a.ex, .bool a.sn, .bool a.fo, .int .i64 a.so] 37)).alloc (.cells #[.int .i64 b.kind, .int .i64 b.frame, .bool b.wr, .bool b.ex, .bool b.sn, .bool b.fo, .int .i64 b.so] 37) := ⟨_, rfl⟩
  obtain ⟨LA, LB, L0, hz0⟩ : Hid (Laid W0 w.heap.size 37 (dcells a)) ∧ Hid (Laid W0 (w.heap.size + 1) 37 (dcells b)) ∧ Hid (Below w.heap.size w W0) ∧ Hid (W0.heap.size = w.heap.size + 2) := less_boxes a b w W0 hW0
  unfold LessArgs dv at *
  rw [hm] at hM
  have k1 : (lvl == 0) = false := by simpa using hl
  clear hl hm
  rcases h with ha | ⟨ha, hb⟩
  · rw [ha] at hMa
    go_enter Try.func4, Try.ntmps4
    go_wp2_with fail
    rw [← hW0]
    clear hW0
    refine (upW_any _).mono ?_
    rintro e w1 ⟨rfl, hb1⟩
    go_wp2_with fail
    refine (oneNew hb1).mono ?_
    rintro e w2 ⟨c, m, rfl, h2⟩
    have G2 : Hid (One W0 w2 c m false []) := h2
    clear h2 hb1
    go_wp2_with fail
    refine (twoNew G2.out).mono ?_
    rintro e w3 ⟨c', m', rfl, h3⟩
    have G3 : Hid (Two W0 w3 c m false [] c' m' false []) := h3
    clear h3 G2
    obtain ⟨a0, a1, a2, a3, a4, a5, a6, -⟩ := desc_cells (LA.out.below G3.out.frame)
    obtain ⟨b0, b1, b2, b3, b4, b5, b6, -⟩ := desc_cells (LB.out.below G3.out.frame)
    go_wp2_with fail
    refine (hM _).mono ?_
    rintro e w4 ⟨rfl, hw⟩
    obtain rfl := hw.symm
    clear hw
    go_wp2_with fail
    refine (hMa _).mono ?_
    rintro e w4 ⟨rfl, hb⟩
    have G4 : Hid (Two W0 w4 c m false [] c' m' false []) := G3.out.below hb
    clear hb G3
    clear a0 a1 a2 a3 a4 a5 a6 b0 b1 b2 b3 b4 b5 b6
    obtain ⟨a0, a1, a2, a3, a4, a5, a6, -⟩ := desc_cells (LA.out.below G4.out.frame)
    obtain ⟨b0, b1, b2, b3, b4, b5, b6, -⟩ := desc_cells (LB.out.below G4.out.frame)
    go_wp2
    go_ret
    exact ⟨rfl, less_end L0.out hz0.out G4.out.frame⟩
  · rw [ha] at hMa
    rw [hb] at hMb
    clear ha hb
    go_enter Try.func4, Try.ntmps4
    go_wp2_with fail
    rw [← hW0]
    clear hW0
    refine (upW_any _).mono ?_
    rintro e w1 ⟨rfl, hb1⟩
    go_wp2_with fail
    refine (oneNew hb1).mono ?_
    rintro e w2 ⟨c, m, rfl, h2⟩
    have G2 : Hid (One W0 w2 c m false []) := h2
    clear h2 hb1
    go_wp2_with fail
    refine (twoNew G2.out).mono ?_
    rintro e w3 ⟨c', m', rfl, h3⟩
    have G3 : Hid (Two W0 w3 c m false [] c' m' false []) := h3
    clear h3 G2
    obtain ⟨a0, a1, a2, a3, a4, a5, a6, -⟩ := desc_cells (LA.out.below G3.out.frame)
    obtain ⟨b0, b1, b2, b3, b4, b5, b6, -⟩ := desc_cells (LB.out.below G3.out.frame)
    go_wp2_with fail
    refine (hM _).mono ?_
    rintro e w4 ⟨rfl, hw⟩
    obtain rfl := hw.symm
    clear hw
    go_wp2_with fail
    refine (hMa _).mono ?_
    rintro e w4 ⟨rfl, hb⟩
    have G4 : Hid (Two W0 w4 c m false [] c' m' false []) := G3.out.below hb
    clear hb G3
    clear a0 a1 a2 a3 a4 a5 a6 b0 b1 b2 b3 b4 b5 b6
    obtain ⟨a0, a1, a2, a3, a4, a5, a6, -⟩ := desc_cells (LA.out.below G4.out.frame)
    obtain ⟨b0, b1, b2, b3, b4, b5, b6, -⟩ := desc_cells (LB.out.below G4.out.frame)
    go_wp2_with fail
    refine (hMb _).mono ?_
    rintro e w5 ⟨rfl, hb⟩
    have G5 : Hid (Two W0 w5 c m false [] c' m' false []) := G4.out.below hb
    clear hb G4
    clear a0 a1 a2 a3 a4 a5 a6 b0 b1 b2 b3 b4 b5 b6
    obtain ⟨a0, a1, a2, a3, a4, a5, a6, -⟩ := desc_cells (LA.out.below G5.out.frame)
    obtain ⟨b0, b1, b2, b3, b4, b5, b6, -⟩ := desc_cells (LB.out.below G5.out.frame)
    go_wp2
    go_ret
    exact ⟨rfl, less_end L0.out hz0.out G5.out.frame⟩

set_option maxRecDepth 100000 in
set_option maxHeartbeats 4000000 in
theorem less_no2 (asid lvl t p f skip : Int) (a b : Dsc) (w : World) (hm : mayW asid lvl t p f = true) (hl : lvl ≠ 0) (ha : mayD lvl a = true) (hb : mayD lvl b = true) (h : wordD a % 2 = 0 ∨ (¬ wordD a % 2 = 0 ∧ wordD b % 2 = 0)) :
    Calls Try.prog 4 (LessArgs asid lvl t p f skip a b) w fun e w' => e = .returned (.bool true) ∧ Below w.heap.size w w' := by
  have hWa := fun w => refWord_any lvl a w ha
  have hWb := fun w => refWord_any lvl b w hb
  have hM := fun w => refMayW_any asid lvl t p f w
  have hMa := fun w => refMay_any lvl a w
  have hMb := fun w => refMay_any lvl b w
  obtain ⟨W0, hW0⟩ : ∃ W0, W0 = (w.alloc (.cells #[.int .i64 a.kind, .int .i64 a.frame, .bool a.wr, .bool a.ex, .bool a.sn, .bool a.fo, .int .i64 a.so] 37)).alloc (.cells #[.int .i64 b.kind, .int .i64 b.frame, .bool b.wr, .bool b.ex, .bool b.sn, .bool b.fo, .int .i64 b.so] 37) := ⟨_, rfl⟩
  obtain ⟨LA, LB, L0, hz0⟩ : Hid (Laid W0 w.heap.size 37 (dcells a)) ∧ Hid (Laid W0 (w.heap.size + 1) 37 (dcells b)) ∧ Hid (Below w.heap.size w W0) ∧ Hid (W0.heap.size = w.heap.size + 2) := less_boxes a b w W0 hW0
  unfold LessArgs dv at *
  rw [hm] at hM
  rw [ha] at hMa
  rw [hb] at hMb
  have k1 : (lvl == 0) = false := by simpa using hl
  clear hl hm ha hb
  generalize wordD a = x at *
  generalize wordD b = y at *
  rcases h with h | ⟨h, h'⟩
  · have k2 := rem_even h
    clear h
    go_enter Try.func4, Try.ntmps4
    go_wp2_with fail
    rw [← hW0]
    clear hW0
    refine (upW_any _).mono ?_
    rintro e w1 ⟨rfl, hb1⟩
    go_wp2_with fail
    refine (oneNew hb1).mono ?_
    rintro e w2 ⟨c, m, rfl, h2⟩
    have G2 : Hid (One W0 w2 c m false []) := h2
    clear h2 hb1
    go_wp2_with fail
    refine (twoNew G2.out).mono ?_
    rintro e w3 ⟨c', m', rfl, h3⟩
    have G3 : Hid (Two W0 w3 c m false [] c' m' false []) := h3
    clear h3 G2
    obtain ⟨a0, a1, a2, a3, a4, a5, a6, -⟩ := desc_cells (LA.out.below G3.out.frame)
    obtain ⟨b0, b1, b2, b3, b4, b5, b6, -⟩ := desc_cells (LB.out.below G3.out.frame)
    go_wp2_with fail
    refine (hM _).mono ?_
    rintro e w4 ⟨rfl, hw⟩
    obtain rfl := hw.symm
    clear hw
    go_wp2_with fail
    refine (hMa _).mono ?_
    rintro e w4 ⟨rfl, hb⟩
    have G4 : Hid (Two W0 w4 c m false [] c' m' false []) := G3.out.below hb
    clear hb G3
    clear a0 a1 a2 a3 a4 a5 a6 b0 b1 b2 b3 b4 b5 b6
    obtain ⟨a0, a1, a2, a3, a4, a5, a6, -⟩ := desc_cells (LA.out.below G4.out.frame)
    obtain ⟨b0, b1, b2, b3, b4, b5, b6, -⟩ := desc_cells (LB.out.below G4.out.frame)
    go_wp2_with fail
    refine (hMb _).mono ?_
    rintro e w5 ⟨rfl, hb⟩
    have G5 : Hid (Two W0 w5 c m false [] c' m' false []) := G4.out.below hb
    clear hb G4
    clear a0 a1 a2 a3 a4 a5 a6 b0 b1 b2 b3 b4 b5 b6
    obtain ⟨a0, a1, a2, a3, a4, a5, a6, -⟩ := desc_cells (LA.out.below G5.out.frame)
    obtain ⟨b0, b1, b2, b3, b4, b5, b6, -⟩ := desc_cells (LB.out.below G5.out.frame)
    go_wp2_with fail
    refine (hWa _).mono ?_
    rintro e w6 ⟨rfl, hb⟩
    have G6 : Hid (Two W0 w6 c m false [] c' m' false []) := G5.out.below hb
    clear hb G5
    clear a0 a1 a2 a3 a4 a5 a6 b0 b1 b2 b3 b4 b5 b6
    obtain ⟨a0, a1, a2, a3, a4, a5, a6, -⟩ := desc_cells (LA.out.below G6.out.frame)
    obtain ⟨b0, b1, b2, b3, b4, b5, b6, -⟩ := desc_cells (LB.out.below G6.out.frame)
    go_wp2_with fail
    refine (hWb _).mono ?_
    rintro e w7 ⟨rfl, hb⟩
    have G7 : Hid (Two W0 w7 c m false [] c' m' false []) := G6.out.below hb
    clear hb G6
    clear a0 a1 a2 a3 a4 a5 a6 b0 b1 b2 b3 b4 b5 b6
    go_wp2
    go_ret
    exact ⟨rfl, less_end L0.out hz0.out G7.out.frame⟩
  · have k2 := rem_odd h
    have k3 := rem_even h'
    clear h h'
    go_enter Try.func4, Try.ntmps4
    go_wp2_with fail
    rw [← hW0]
    clear hW0
    refine (upW_any _).mono ?_
    rintro e w1 ⟨rfl, hb1⟩
    go_wp2_with fail
    refine (oneNew hb1).mono ?_
    rintro e w2 ⟨c, m, rfl, h2⟩
    have G2 : Hid (One W0 w2 c m false []) := h2
    clear h2 hb1
    go_wp2_with fail
    refine (twoNew G2.out).mono ?_
    rintro e w3 ⟨c', m', rfl, h3⟩
    have G3 : Hid (Two W0 w3 c m false [] c' m' false []) := h3
    clear h3 G2
    obtain ⟨a0, a1, a2, a3, a4, a5, a6, -⟩ := desc_cells (LA.out.below G3.out.frame)
    obtain ⟨b0, b1, b2, b3, b4, b5, b6, -⟩ := desc_cells (LB.out.below G3.out.frame)
    go_wp2_with fail
    refine (hM _).mono ?_
    rintro e w4 ⟨rfl, hw⟩
    obtain rfl := hw.symm
    clear hw
    go_wp2_with fail
    refine (hMa _).mono ?_
    rintro e w4 ⟨rfl, hb⟩
    have G4 : Hid (Two W0 w4 c m false [] c' m' false []) := G3.out.below hb
    clear hb G3
    clear a0 a1 a2 a3 a4 a5 a6 b0 b1 b2 b3 b4 b5 b6
    obtain ⟨a0, a1, a2, a3, a4, a5, a6, -⟩ := desc_cells (LA.out.below G4.out.frame)
    obtain ⟨b0, b1, b2, b3, b4, b5, b6, -⟩ := desc_cells (LB.out.below G4.out.frame)
    go_wp2_with fail
    refine (hMb _).mono ?_
    rintro e w5 ⟨rfl, hb⟩
    have G5 : Hid (Two W0 w5 c m false [] c' m' false []) := G4.out.below hb
    clear hb G4
    clear a0 a1 a2 a3 a4 a5 a6 b0 b1 b2 b3 b4 b5 b6
    obtain ⟨a0, a1, a2, a3, a4, a5, a6, -⟩ := desc_cells (LA.out.below G5.out.frame)
    obtain ⟨b0, b1, b2, b3, b4, b5, b6, -⟩ := desc_cells (LB.out.below G5.out.frame)
    go_wp2_with fail
    refine (hWa _).mono ?_
    rintro e w6 ⟨rfl, hb⟩
    have G6 : Hid (Two W0 w6 c m false [] c' m' false []) := G5.out.below hb
    clear hb G5
    clear a0 a1 a2 a3 a4 a5 a6 b0 b1 b2 b3 b4 b5 b6
    obtain ⟨a0, a1, a2, a3, a4, a5, a6, -⟩ := desc_cells (LA.out.below G6.out.frame)
    obtain ⟨b0, b1, b2, b3, b4, b5, b6, -⟩ := desc_cells (LB.out.below G6.out.frame)
    go_wp2_with fail
    refine (hWb _).mono ?_
    rintro e w7 ⟨rfl, hb⟩
    have G7 : Hid (Two W0 w7 c m false [] c' m' false []) := G6.out.below hb
    clear hb G6
    clear a0 a1 a2 a3 a4 a5 a6 b0 b1 b2 b3 b4 b5 b6
    go_wp2
    go_ret
    exact ⟨rfl, less_end L0.out hz0.out G7.out.frame⟩
end Go.Proofs.Ytjijgpdfoilijaa
