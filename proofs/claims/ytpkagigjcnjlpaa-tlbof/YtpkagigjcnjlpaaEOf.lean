/- tlb.Of; TlbOf: the walk. -/
import Derived.Test.YtpkagigjcnjlpaaEUp
import Derived.Test.YtpkagigjcnjlpaaEFou
namespace Go.Proofs.Ytpkagigjcnjlpaa
open Go.RowKit

def fcells (f : Fou) : Array Value := #[.int .i64 f.kind, .int .i64 f.level, .int .i64 f.table, .int .i64 f.place, .int .i64 f.frame, .int .i64 f.order, .int .i64 f.first, .int .i64 f.base, .bool f.writ, .bool f.exe, .bool f.seen]
def fouV (f : Fou) : Value := .agg #[.int .i64 f.kind, .int .i64 f.level, .int .i64 f.table, .int .i64 f.place, .int .i64 f.frame, .int .i64 f.order, .int .i64 f.first, .int .i64 f.base, .bool f.writ, .bool f.exe, .bool f.seen]
def entOf (f : Fou) (asid : Int) : Ent := ⟨asid, f.first, f.order, f.base, f.writ, f.exe⟩
def kindB (f : Fou) : Bool := decide (f.kind = 2 ∨ f.kind = 3)
def ofE (f : Fou) (asid : Int) : Ent := if kindB f && mayB (entOf f asid) then entOf f asid else Ent.zero
def ofR (f : Fou) (asid : Int) : Value := if kindB f then (if mayB (entOf f asid) then .nilIface else errArg) else errNone

set_option maxRecDepth 100000 in
set_option maxHeartbeats 4000000 in
theorem of_any (f : Fou) (asid : Int) (w : World) :
    Calls Try.prog 11 #[fouV f, .int .i64 asid] w fun e w' => e = .returned (.tuple #[ev (ofE f asid), ofR f asid]) ∧ Below w.heap.size w w' := by
  have L := ((Below.refl w.heap.size w).alloc (Nat.le_refl _) (.cells (fcells f) 23)).alloc (by simp) (.cells (ecells Ent.zero) 26)
  have Z := Laid.new (w.alloc (.cells (fcells f) 23)) 26 (ecells Ent.zero)
  rw [show (w.alloc (.cells (fcells f) 23)).heap.size = w.heap.size + 1 by simp] at Z
  have hM := mayBe_any (entOf f asid)
  have H0 : Hid (Laid ((w.alloc (.cells (fcells f) 23)).alloc (.cells (ecells Ent.zero) 26)) (w.heap.size + 1) 26 (ecells Ent.zero) ∧ Below w.heap.size w ((w.alloc (.cells (fcells f) 23)).alloc (.cells (ecells Ent.zero) 26))) := ⟨Z, L⟩
  clear L Z
  unfold ev entOf at hM
  simp only at hM
  cases hk : kindB f
  · have h2 : ¬ f.kind = 2 ∧ ¬ f.kind = 3 := by simpa [kindB] using hk
    have q2 : (f.kind != 2) = true := by simpa using h2.1
    have q3 : (f.kind != 3) = true := by simpa using h2.2
    clear h2
    have HE : Hid (ofE f asid = Ent.zero ∧ ofR f asid = errNone) := by
      refine ⟨?_, ?_⟩
      · unfold ofE; rw [hk]; rfl
      · unfold ofR; rw [hk]; rfl
    clear hk
    unfold fouV
    go_enter Try.func11, Try.ntmps11
    go_wp2
    refine bodyPost_ret (v := .tuple #[ev Ent.zero, errNone]) ?_ rfl ⟨by rw [HE.out.1, HE.out.2], ?_⟩
    · simp [results, Try.results11, go_sem, ev, Ent.zero, errNone]
    · exact H0.out.2
  · have h2' : f.kind = 2 ∨ f.kind = 3 := by simpa [kindB] using hk
    have h2 : (f.kind != 2) = false ∨ ((f.kind != 2) = true ∧ (f.kind != 3) = false) := by
      rcases h2' with e | e
      · left; simp [e]
      · right; simp [e]
    clear h2'
    have HE : Hid (ofE f asid = (if mayB (entOf f asid) then entOf f asid else Ent.zero) ∧ ofR f asid = (if mayB (entOf f asid) then .nilIface else errArg)) := by
      refine ⟨?_, ?_⟩
      · unfold ofE; rw [hk]; rfl
      · unfold ofR; rw [hk]; rfl
    clear hk
    unfold fouV
    have B1 := (Below.refl ((w.alloc (.cells (fcells f) 23)).alloc (.cells (ecells Ent.zero) 26)).heap.size ((w.alloc (.cells (fcells f) 23)).alloc (.cells (ecells Ent.zero) 26))).alloc (Nat.le_refl _) (.cells (ecells (entOf f asid)) 26)
    have X1 := Laid.new ((w.alloc (.cells (fcells f) 23)).alloc (.cells (ecells Ent.zero) 26)) 26 (ecells (entOf f asid))
    rw [show ((w.alloc (.cells (fcells f) 23)).alloc (.cells (ecells Ent.zero) 26)).heap.size = w.heap.size + 1 + 1 by simp] at X1
    have H1 : Hid (Laid (((w.alloc (.cells (fcells f) 23)).alloc (.cells (ecells Ent.zero) 26)).alloc (.cells (ecells (entOf f asid)) 26)) (w.heap.size + 1 + 1) 26 (ecells (entOf f asid)) ∧ Laid (((w.alloc (.cells (fcells f) 23)).alloc (.cells (ecells Ent.zero) 26)).alloc (.cells (ecells (entOf f asid)) 26)) (w.heap.size + 1) 26 (ecells Ent.zero) ∧ Below w.heap.size w (((w.alloc (.cells (fcells f) 23)).alloc (.cells (ecells Ent.zero) 26)).alloc (.cells (ecells (entOf f asid)) 26))) := ⟨X1, H0.out.1.below B1, below_call H0.out.2 H0.out.2.size B1⟩
    clear B1 X1 H0
    cases hm : mayB (entOf f asid)
    · rw [show mayB ⟨asid, f.first, f.order, f.base, f.writ, f.exe⟩ = false from hm] at hM
      rw [hm] at HE
      clear hm
      rcases h2 with h2 | ⟨h2, h3⟩
      all_goals
        go_enter Try.func11, Try.ntmps11
        go_wp2_with fail
        refine (hM _).mono ?_
        rintro e w1 ⟨rfl, hb⟩
        have R := H1.out.2.1.below hb
        have L := below_call H1.out.2.2 H1.out.2.2.size hb
        obtain ⟨r0, r1, r2, r3, r4, r5⟩ := R.ent
        have hz := R.frozen
        have hlt := R.lt
        have HL : Hid (Below w.heap.size w w1) := L
        clear hb R L H1
        go_wp2
        refine bodyPost_ret (v := .tuple #[ev Ent.zero, errArg]) ?_ rfl ⟨by rw [HE.out.1, HE.out.2]; rfl, ?_⟩
        · simp [results, Try.results11, go_sem, ev, Ent.zero, errArg, r0, r1, r2, r3, r4, r5]
        · exact below_row HL.out HL.out.size (grown_setCells (ecells Ent.zero).toList w1 (w.heap.size + 1) 0) (by omega)
    · rw [show mayB ⟨asid, f.first, f.order, f.base, f.writ, f.exe⟩ = true from hm] at hM
      rw [hm] at HE
      clear hm
      rcases h2 with h2 | ⟨h2, h3⟩
      all_goals
        go_enter Try.func11, Try.ntmps11
        go_wp2_with fail
        refine (hM _).mono ?_
        rintro e w1 ⟨rfl, hb⟩
        have X := H1.out.1.below hb
        have R := H1.out.2.1.below hb
        have L := below_call H1.out.2.2 H1.out.2.2.size hb
        obtain ⟨r0, r1, r2, r3, r4, r5⟩ := R.ent
        obtain ⟨x0, x1, x2, x3, x4, x5⟩ := X.ent
        have hz := R.frozen
        have hlt := R.lt
        have HL : Hid (Below w.heap.size w w1) := L
        clear hb R L H1 X
        unfold entOf at x0 x1 x2 x3 x4 x5
        simp only at x0 x1 x2 x3 x4 x5
        go_wp2
        refine bodyPost_ret (v := .tuple #[ev (entOf f asid), .nilIface]) ?_ rfl ⟨by rw [HE.out.1, HE.out.2]; rfl, ?_⟩
        · simp [results, Try.results11, go_sem, ev, entOf, r0, r1, r2, r3, r4, r5]
        · exact below_row HL.out HL.out.size (grown_setCells (ecells (entOf f asid)).toList w1 (w.heap.size + 1) 0) (by omega)
end Go.Proofs.Ytpkagigjcnjlpaa
