/- A watch as it lies; New, Broken, Open, Told, Space. -/
import Derived.Test.YtjijgpdfoilijaaBOpen
namespace Go.Proofs.Ytjijgpdfoilijaa
open Go.RowKit

/-- A watch in block b, its map in block m; all its blocks are of F. -/
structure Wat (F : Nat → Prop) (w : World) (b m : Nat) (br : Bool) (l : Gaps) : Prop where
  box : Laid w b 46 #[.map (some m), .bool br]
  mp : Mp slotM w m l
  op : ∀ p ∈ l, OpnAt w p.2
  apart : Apart l
  fb : F b
  fm : F m
  fo : ∀ p ∈ l, F p.2.o ∧ F p.2.r
  lt : ∀ c, F c → c < w.heap.size
section
variable {F G s : Nat → Prop} {w w' : World} {b m : Nat} {br : Bool} {l : Gaps}
theorem Wat.keeps (h : Wat F w b m br l) (hk : Keeps w w' s) (hs : ∀ c, F c → ¬ s c) : Wat F w' b m br l :=
  ⟨(hk.block _ (h.lt _ h.fb) (hs _ h.fb)).trans h.box, h.mp.same (hk.block _ (h.lt _ h.fm) (hs _ h.fm)), fun p hp => (h.op p hp).keeps hk (hs _ (h.fo p hp).1) (hs _ (h.fo p hp).2), h.apart, h.fb, h.fm, h.fo, fun c hc => Nat.lt_of_lt_of_le (h.lt c hc) hk.size⟩
theorem Wat.below (h : Wat F w b m br l) (hb : Below w.heap.size w w') : Wat F w' b m br l := h.keeps (Keeps.of_below hb (fun _ => False)) fun _ _ e => e
theorem Wat.drew (h : Wat F w b m br l) : Wat F w.drew b m br l := h.keeps (s := fun _ => False) (Keeps.refl w _).drew fun _ _ e => e
theorem Wat.drewN (h : Wat F w b m br l) (n : Nat) : Wat F (w.drewN n) b m br l := h.keeps (s := fun _ => False) ((Keeps.refl w _).drewN n) fun _ _ e => e
theorem Wat.foot (h : Wat F w b m br l) {c : Nat} (hc : foot m l c) : F c := by
  rcases hc with rfl | ⟨p, hp, rfl | rfl⟩
  · exact h.fm
  · exact (h.fo p hp).1
  · exact (h.fo p hp).2
theorem Wat.notFoot (h : Wat F w b m br l) : ¬ Go.Proofs.Ytjijgpdfoilijaa.foot m l b := by
  rintro (e | ⟨p, hp, e | e⟩)
  · exact h.mp.ne h.box e.symm
  · exact ne_of_tag h.box (h.op p hp).box (by decide) e
  · exact ne_of_tag h.box (h.op p hp).row (by decide) e
theorem Wat.cells (h : Wat F w b m br l) : w.cell? ⟨b, 0, none⟩ = some (.map (some m)) ∧ w.cell? ⟨b, 1, none⟩ = some (.bool br) ∧ w.frozen? ⟨b, 1, none⟩ = false :=
  ⟨by rw [h.box.cell]; rfl, by rw [h.box.cell]; rfl, frozen_of_row w _ _ _ _ h.box⟩
/-- A watch whose map was turned, and whose openings were. -/
theorem Wat.turned {l' : Gaps} (h : Wat F w b m br l) (hk : Keeps w w' (Go.Proofs.Ytjijgpdfoilijaa.foot m l)) (hM : Mp slotM w' m l') (hO : ∀ p ∈ l', OpnAt w' p.2) (hs : ∀ p ∈ l', ∃ q ∈ l, q.1 = p.1 ∧ q.2.o = p.2.o ∧ q.2.r = p.2.r) : Wat F w' b m br l' := by
  refine ⟨(hk.block _ (h.lt _ h.fb) h.notFoot).trans h.box, hM, hO, fun p hp q hq hne => ?_, h.fb, h.fm, fun p hp => ?_, fun c hc => Nat.lt_of_lt_of_le (h.lt c hc) hk.size⟩
  · obtain ⟨p0, hp0, e1, e2, e3⟩ := hs p hp
    obtain ⟨q0, hq0, g1, g2, g3⟩ := hs q hq
    have := h.apart p0 hp0 q0 hq0 (by rw [e1, g1]; exact hne)
    rw [← e2, ← e3, ← g2, ← g3]
    exact this
  · obtain ⟨p0, hp0, e1, e2, e3⟩ := hs p hp
    rw [← e2, ← e3]
    exact h.fo p0 hp0
end

def NewWPost (w : World) (e : Ending) (w' : World) : Prop := ∃ b m, e = .returned (.pointer (some ⟨b, 0, none⟩)) ∧ Wat (fun c => w.heap.size ≤ c ∧ c < w'.heap.size) w' b m false [] ∧ Below w.heap.size w w'
set_option maxHeartbeats 1000000 in
theorem newW_any (w : World) : Calls Try.prog 7 #[] w (NewWPost w) := by
  have hmm := @run_makeMap Try.prog
  have HQ : Hid (NewWPost w (.returned (.pointer (some ⟨w.heap.size + 1, 0, none⟩))) ((w.alloc (.map #[] 0)).alloc (.cells #[.map (some w.heap.size), .bool false] 46))) := by
    have e : (w.alloc (.map #[] 0)).heap.size = w.heap.size + 1 := by simp
    refine ⟨w.heap.size + 1, w.heap.size, rfl, ⟨?_, ?_, by simp, fun p hp => by simp at hp, ⟨by simp, by simp⟩, ⟨by simp, by simp; omega⟩, by simp, fun c hc => hc.2⟩, ((Below.refl _ _).alloc (Nat.le_refl _) _).alloc (by simp) _⟩
    · have := Laid.new (w.alloc (.map #[] 0)) 46 #[.map (some w.heap.size), .bool false]
      rw [e] at this
      exact this
    · have h1 := Mp.made slotM w
      exact h1.same ((World.grownBy_alloc (w.alloc (.map #[] 0)) _ none).block _ (by simp) (by simp))
  go_enter Try.func7, Try.ntmps7
  go_wp2
  go_ret
  exact HQ.out

section
variable {F : Nat → Prop} {w : World} {b m : Nat} {br : Bool} {l : Gaps}
theorem brokenW_any (h : Wat F w b m br l) : Calls Try.prog 13 #[.pointer (some ⟨b, 0, none⟩)] w fun e w' => e = .returned (.bool br) ∧ w' = w := by
  obtain ⟨c0, c1, -⟩ := h.cells
  clear h
  go_enter Try.func13, Try.ntmps13
  go_wp2
  go_ret
  exact ⟨rfl, rfl⟩
theorem openW_any (h : Wat F w b m br l) : Calls Try.prog 14 #[.pointer (some ⟨b, 0, none⟩)] w fun e w' => e = .returned (.int .i64 l.length) ∧ w' = w := by
  obtain ⟨c0, c1, -⟩ := h.cells
  have hl := fun ty => h.mp.len ty
  simp only [slotM] at hl
  clear h
  go_enter Try.func14, Try.ntmps14
  go_wp2
  go_ret
  exact ⟨rfl, rfl⟩
end

/-- Space's function value. -/
theorem spaceC_any (c : Nat) (a : Int) : Clo 27 #[.pointer (some ⟨c, 0, none⟩)] [(c, a)] id (fun x => x.asid == a) := by
  refine ⟨by intro args w; kernel_rfl, fun W x s hC hO => ?_⟩
  have q0 : W.cell? ⟨c, 0, none⟩ = some (.int .i64 a) := by rw [(hC (c, a) (by simp)).cell]; rfl
  have c0 : W.cell? ⟨x.o, 0, none⟩ = some (.int .i64 x.asid) := by rw [hO.box.cell]; rfl
  have hcz := hC.lt (p := (c, a)) (by simp)
  have hoz := hO.box.lt
  simp only at hcz
  unfold slotV
  have HO : Hid (OpnAt W x) := hO
  clear hC hO
  have t1 : (W.alloc (.cells #[.int .i64 s.1, .int .i64 s.2] 53)).cell? ⟨c, 0, none⟩ = some (.int .i64 a) := by rw [cell_alloc_old hcz]; exact q0
  have t2 : (W.alloc (.cells #[.int .i64 s.1, .int .i64 s.2] 53)).cell? ⟨x.o, 0, none⟩ = some (.int .i64 x.asid) := by rw [cell_alloc_old hoz]; exact c0
  have k1 : Keeps W (W.alloc (.cells #[.int .i64 s.1, .int .i64 s.2] 53)) fun c => c = x.o ∨ c = x.r := (Keeps.of_grown (World.grownBy_alloc W _ none)).mono fun _ _ e => by cases e
  have o1 : OpnAt (W.alloc (.cells #[.int .i64 s.1, .int .i64 s.2] 53)) x := HO.out.keeps ((Keeps.of_grown (World.grownBy_alloc W _ none)).mono (s' := fun _ => False) fun _ _ e => by cases e) (fun e => e) (fun e => e)
  have K1 : Hid _ := k1
  have O1 : Hid (OpnAt (W.alloc (.cells #[.int .i64 s.1, .int .i64 s.2] 53)) x) := o1
  clear k1 o1 q0 c0
  go_enter Try.func27, Try.ntmps27
  go_wp2_with fail
  go_quiet (fail)
  go_wp2
  go_ret
  exact ⟨rfl, O1.out.drewN _, K1.out.drewN _⟩
end Go.Proofs.Ytjijgpdfoilijaa
