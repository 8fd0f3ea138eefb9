/- TlbOf: the walk. -/
import Derived.Test.YtpkagigjcnjlpaaEOf
namespace Go.Proofs.Ytpkagigjcnjlpaa
open Go.RowKit

theorem Laid.fou {w : World} {b : Nat} {x : Fou} (h : Laid w b 23 (fcells x)) : w.cell? ⟨b, 0, none⟩ = some (.int .i64 x.kind) ∧ w.cell? ⟨b, 1, none⟩ = some (.int .i64 x.level) ∧ w.cell? ⟨b, 2, none⟩ = some (.int .i64 x.table) ∧ w.cell? ⟨b, 3, none⟩ = some (.int .i64 x.place) ∧ w.cell? ⟨b, 4, none⟩ = some (.int .i64 x.frame) ∧ w.cell? ⟨b, 5, none⟩ = some (.int .i64 x.order) ∧
    w.cell? ⟨b, 6, none⟩ = some (.int .i64 x.first) ∧ w.cell? ⟨b, 7, none⟩ = some (.int .i64 x.base) ∧ w.cell? ⟨b, 8, none⟩ = some (.bool x.writ) ∧ w.cell? ⟨b, 9, none⟩ = some (.bool x.exe) ∧ w.cell? ⟨b, 10, none⟩ = some (.bool x.seen) :=
  ⟨h.cell 0, h.cell 1, h.cell 2, h.cell 3, h.cell 4, h.cell 5, h.cell 6, h.cell 7, h.cell 8, h.cell 9, h.cell 10⟩

set_option maxRecDepth 100000 in
set_option maxHeartbeats 4000000 in
theorem walk_tlbOf (f : Fou) (asid : Int) (w : World) (_hf : f.ok) (_ha : -9223372036854775808 ≤ asid ∧ asid ≤ 9223372036854775807) :
    Calls Try.prog 3 #[fouV f, .int .i64 asid] w fun e w' => e = .returned (.bool true) ∧ Below w.heap.size w w' := by
  have L := (Below.refl w.heap.size w).alloc (Nat.le_refl _) (.cells (fcells f) 23)
  have A := Laid.new w 23 (fcells f)
  have hO := of_any f asid
  have hM := May_any (entOf f asid)
  have H0 : Hid (Laid (w.alloc (.cells (fcells f) 23)) w.heap.size 23 (fcells f) ∧ Below w.heap.size w (w.alloc (.cells (fcells f) 23))) := ⟨A, L⟩
  clear A L
  unfold fouV at *
  go_enter Try.func3, Try.ntmps3
  go_wp2_with fail
  refine (up_any _).mono ?_
  rintro e w1 ⟨rfl, hb⟩
  have H1 : Hid (Laid w1 w.heap.size 23 (fcells f) ∧ Below w.heap.size w w1) := ⟨H0.out.1.below hb, below_call H0.out.2 H0.out.2.size hb⟩
  clear hb H0
  obtain ⟨f0, f1, f2, f3, f4, f5, f6, f7, f8, f9, f10⟩ := H1.out.1.fou
  cases hk : kindB f
  · have h2 : ¬ f.kind = 2 ∧ ¬ f.kind = 3 := by simpa [kindB] using hk
    have q2 : (f.kind != 2) = true := by simpa using h2.1
    have q3 : (f.kind != 3) = true := by simpa using h2.2
    have e1 : ofE f asid = Ent.zero := by unfold ofE; rw [hk]; rfl
    have e2 : ofR f asid = errNone := by unfold ofR; rw [hk]; rfl
    rw [e1, e2] at hO
    have he := eql_ent Ent.zero Ent.zero
    rw [eqE_self] at he
    unfold ev Ent.zero at he hO
    unfold errNone at hO
    have he3 := eq_err 3
    clear hk h2 e1 e2 hM
    go_wp2_with fail
    refine (hO _).mono ?_
    rintro e w2 ⟨rfl, hb⟩
    have L2 := below_call H1.out.2 H1.out.2.size hb
    have c0 : w2.cell? ⟨w.heap.size, 0, none⟩ = some (.int .i64 f.kind) := (H1.out.1.below hb).cell 0
    have hlt := (H1.out.1.below hb).lt
    have hne : w.heap.size ≠ w2.heap.size := by omega
    have HL : Hid (Below w.heap.size w w2) := L2
    clear f0 f1 f2 f3 f4 f5 f6 f7 f8 f9 f10 hb H1 L2 hO
    go_wp2
    go_ret
    exact ⟨rfl, HL.out.alloc HL.out.size _⟩
  · have h2' : f.kind = 2 ∨ f.kind = 3 := by simpa [kindB] using hk
    have h2 : (f.kind != 2) = false ∨ ((f.kind != 2) = true ∧ (f.kind != 3) = false) := by
      rcases h2' with e | e
      · left; simp [e]
      · right; simp [e]
    have e1 : ofE f asid = (if mayB (entOf f asid) then entOf f asid else Ent.zero) := by unfold ofE; rw [hk]; rfl
    have e2 : ofR f asid = (if mayB (entOf f asid) then .nilIface else errArg) := by unfold ofR; rw [hk]; rfl
    rw [e1, e2] at hO
    clear hk h2' e1 e2
    cases hm : mayB (entOf f asid)
    · rw [hm] at hM hO
      simp only [Bool.false_eq_true, if_false] at hO
      have he := eql_ent Ent.zero Ent.zero
      rw [eqE_self] at he
      have he3 := eq_err 1
      clear hm
      unfold ev at he hO hM
      unfold Ent.zero at he hO
      unfold errArg at hO
      unfold entOf at hM
      simp only at hM
      go_wp2_with fail
      refine (hO _).mono ?_
      rintro e w2 ⟨rfl, hb⟩
      have A2 := H1.out.1.below hb
      have L2 := below_call H1.out.2 H1.out.2.size hb
      have B3 := (Below.refl w2.heap.size w2).alloc (Nat.le_refl _) (.cells (ecells Ent.zero) 26)
      have X3 := Laid.new w2 26 (ecells Ent.zero)
      have B4 := B3.alloc B3.size (.cells (ecells (entOf f asid)) 26)
      have X4 := X3.below ((Below.refl _ _).alloc (Nat.le_refl _) (.cells (ecells (entOf f asid)) 26))
      have L4 := below_call L2 L2.size B4
      have H4 : Hid (Laid ((w2.alloc (.cells (ecells Ent.zero) 26)).alloc (.cells (ecells (entOf f asid)) 26)) w2.heap.size 26 (ecells Ent.zero) ∧ Below w.heap.size w ((w2.alloc (.cells (ecells Ent.zero) 26)).alloc (.cells (ecells (entOf f asid)) 26))) := ⟨X4, L4⟩
      clear f0 f1 f2 f3 f4 f5 f6 f7 f8 f9 f10
      obtain ⟨f0, f1, f2, f3, f4, f5, f6, f7, f8, f9, f10⟩ := A2.fou
      have hlt := A2.lt
      have hne : w.heap.size ≠ w2.heap.size := by omega
      clear hb H1 L2 hO A2 B3 X3 B4 X4 L4
      rcases h2 with h2 | ⟨h2, h3⟩
      all_goals
        go_wp2_with fail
        refine (hM _).mono ?_
        rintro e w3 ⟨rfl, hb⟩
        obtain ⟨x0, x1, x2, x3, x4, x5⟩ := (H4.out.1.below hb).ent
        have L5 := below_call H4.out.2 H4.out.2.size hb
        have HL : Hid (Below w.heap.size w w3) := L5
        clear hb H4 L5 hM f0 f1 f2 f3 f4 f5 f6 f7 f8 f9 f10
        unfold Ent.zero at x0 x1 x2 x3 x4 x5
        simp only at x0 x1 x2 x3 x4 x5
        go_wp2
        go_ret
        exact ⟨rfl, HL.out⟩
    · rw [hm] at hM hO
      simp only [if_true] at hO
      have he := eql_ent (entOf f asid) (entOf f asid)
      rw [eqE_self] at he
      clear hm
      unfold ev at he hO hM
      unfold entOf at hM he hO
      simp only at hM he hO
      go_wp2_with fail
      refine (hO _).mono ?_
      rintro e w2 ⟨rfl, hb⟩
      have A2 := H1.out.1.below hb
      have L2 := below_call H1.out.2 H1.out.2.size hb
      have B3 := (Below.refl w2.heap.size w2).alloc (Nat.le_refl _) (.cells (ecells (entOf f asid)) 26)
      have X3 := Laid.new w2 26 (ecells (entOf f asid))
      have B4 := B3.alloc B3.size (.cells (ecells (entOf f asid)) 26)
      have X4 := X3.below ((Below.refl _ _).alloc (Nat.le_refl _) (.cells (ecells (entOf f asid)) 26))
      have Y4 := Laid.new (w2.alloc (.cells (ecells (entOf f asid)) 26)) 26 (ecells (entOf f asid))
      rw [show (w2.alloc (.cells (ecells (entOf f asid)) 26)).heap.size = w2.heap.size + 1 by simp] at Y4
      have L4 := below_call L2 L2.size B4
      have H4 : Hid (Laid ((w2.alloc (.cells (ecells (entOf f asid)) 26)).alloc (.cells (ecells (entOf f asid)) 26)) w2.heap.size 26 (ecells (entOf f asid)) ∧ Laid ((w2.alloc (.cells (ecells (entOf f asid)) 26)).alloc (.cells (ecells (entOf f asid)) 26)) (w2.heap.size + 1) 26 (ecells (entOf f asid)) ∧ Below w.heap.size w ((w2.alloc (.cells (ecells (entOf f asid)) 26)).alloc (.cells (ecells (entOf f asid)) 26))) := ⟨X4, Y4, L4⟩
      clear f0 f1 f2 f3 f4 f5 f6 f7 f8 f9 f10
      obtain ⟨f0, f1, f2, f3, f4, f5, f6, f7, f8, f9, f10⟩ := A2.fou
      have hlt := A2.lt
      have hne : w.heap.size ≠ w2.heap.size := by omega
      clear hb H1 L2 hO A2 B3 X3 B4 X4 Y4 L4
      rcases h2 with h2 | ⟨h2, h3⟩
      all_goals
        go_wp2_with fail
        refine (hM _).mono ?_
        rintro e w3 ⟨rfl, hb⟩
        obtain ⟨x0, x1, x2, x3, x4, x5⟩ := (H4.out.1.below hb).ent
        obtain ⟨y0, y1, y2, y3, y4, y5⟩ := (H4.out.2.1.below hb).ent
        have L5 := below_call H4.out.2.2 H4.out.2.2.size hb
        have HL : Hid (Below w.heap.size w w3) := L5
        clear hb H4 L5 hM f0 f1 f2 f3 f4 f5 f6 f7 f8 f9 f10
        unfold entOf at x0 x1 x2 x3 x4 x5 y0 y1 y2 y3 y4 y5
        simp only at x0 x1 x2 x3 x4 x5 y0 y1 y2 y3 y4 y5
        go_wp2
        go_ret
        exact ⟨rfl, HL.out⟩
end Go.Proofs.Ytpkagigjcnjlpaa
