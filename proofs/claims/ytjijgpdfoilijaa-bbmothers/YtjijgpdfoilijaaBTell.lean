/- An opening as it lies; a page of it is told. -/
import Derived.Test.YtjijgpdfoilijaaBSlot
import Derived.Test.YtjijgpdfoilijaaBLeaf
namespace Go.Proofs.Ytjijgpdfoilijaa
open Go.RowKit

/-- An open place: where its opening and its row of pages lie, and what they say. -/
structure Opn where
  o : Nat
  r : Nat
  asid : Int
  first : Int
  last : Nat
  told : List Bool
/-- How many aren't told. -/
def leftN (t : List Bool) : Nat := t.countP fun b => !b
def ocells (x : Opn) : Array Value := #[.int .i64 x.asid, .int .i64 x.first, .int .u64 x.last, .slice (some ⟨x.r, 0, none⟩) x.told.length x.told.length, .int .i64 (leftN x.told)]
def tcells (t : List Bool) : Array Value := (t.map Value.bool).toArray
structure OpnAt (w : World) (x : Opn) : Prop where
  box : Laid w x.o 61 (ocells x)
  row : Laid w x.r 4 (tcells x.told)
  len : x.told.length ≤ 512
  f0 : 0 ≤ x.first
  f1 : x.first ≤ 4095
  u : x.last < 18446744073709551616
theorem OpnAt.same {w w' : World} {x : Opn} (h : OpnAt w x) (e1 : w'.heap[x.o]? = w.heap[x.o]?) (e2 : w'.heap[x.r]? = w.heap[x.r]?) : OpnAt w' x :=
  ⟨e1.trans h.box, e2.trans h.row, h.len, h.f0, h.f1, h.u⟩
theorem OpnAt.keeps {w w' : World} {x : Opn} {s : Nat → Prop} (h : OpnAt w x) (hk : Keeps w w' s) (h1 : ¬ s x.o) (h2 : ¬ s x.r) : OpnAt w' x :=
  h.same (hk.block _ h.box.lt h1) (hk.block _ h.row.lt h2)
theorem OpnAt.ne {w : World} {x : Opn} (h : OpnAt w x) : x.o ≠ x.r := ne_of_tag h.box h.row (by decide)

theorem Keeps.drew {w w' : World} {s : Nat → Prop} (h : Keeps w w' s) : Keeps w w'.drew s := ⟨h.os, h.tape, h.output, h.size, h.block⟩
theorem Keeps.drewN {w w' : World} {s : Nat → Prop} (h : Keeps w w' s) (n : Nat) : Keeps w (w'.drewN n) s := ⟨h.os, h.tape, h.output, h.size, h.block⟩
theorem OpnAt.drew {w : World} {x : Opn} (h : OpnAt w x) : OpnAt w.drew x := h.same rfl rfl
theorem OpnAt.drewN {w : World} {x : Opn} (h : OpnAt w x) (n : Nat) : OpnAt (w.drewN n) x := h.same rfl rfl
/-- The pages behind one of them being told. -/
def tellT (t : List Bool) (first page : Int) : List Bool := if first ≤ page ∧ page < first + t.length then t.set (page - first).toNat true else t
def Opn.tell (x : Opn) (page : Int) : Opn := { x with told := tellT x.told x.first page }
theorem tellT_len (t : List Bool) (f p : Int) : (tellT t f p).length = t.length := by
  unfold tellT
  split <;> simp
theorem left_set : ∀ (t : List Bool) (i : Nat), t[i]? = some false → leftN (t.set i true) + 1 = leftN t
  | [], i, h => by simp at h
  | b :: r, 0, h => by
    simp at h
    subst h
    simp [leftN]
  | b :: r, i + 1, h => by
    have := left_set r i (by simpa using h)
    simp only [leftN, List.set_cons_succ, List.countP_cons] at this ⊢
    omega
theorem left_le (t : List Bool) : leftN t ≤ t.length := List.countP_le_length
theorem set_same : ∀ (t : List Bool) (i : Nat), t[i]? = some true → t.set i true = t
  | [], i, h => by simp at h
  | b :: r, 0, h => by
    simp at h
    simp [h]
  | b :: r, i + 1, h => by
    simp only [List.set_cons_succ, set_same r i (by simpa using h)]

def TellPost (x : Opn) (page : Int) (w : World) (e : Ending) (w' : World) : Prop := e = .returned (.tuple #[]) ∧ OpnAt w' (x.tell page) ∧ Keeps w w' fun c => c = x.o ∨ c = x.r

set_option maxRecDepth 100000 in
set_option maxHeartbeats 4000000 in
theorem tell_any (x : Opn) (page : Int) (w : World) (h : OpnAt w x) :
    Calls Try.prog 29 #[.pointer (some ⟨x.o, 0, none⟩), .int .i64 page] w (TellPost x page w) := by
  have c1 : w.cell? ⟨x.o, 1, none⟩ = some (.int .i64 x.first) := by rw [h.box.cell]; rfl
  have c3 : w.cell? ⟨x.o, 3, none⟩ = some (.slice (some ⟨x.r, 0, none⟩) x.told.length x.told.length) := by rw [h.box.cell]; rfl
  have c4 : w.cell? ⟨x.o, 4, none⟩ = some (.int .i64 (leftN x.told)) := by rw [h.box.cell]; rfl
  have hlen := h.len
  have hf0 := h.f0
  have hf1 := h.f1
  have e1 : IntKind.i64.wrap (x.first + (x.told.length : Int)) = x.first + (x.told.length : Int) := IntWalk.i64_in _ (by omega)
  by_cases h1 : page < x.first
  · have hs : x.tell page = x := by unfold Opn.tell tellT; rw [if_neg (by omega)]
    have hd : decide (page < x.first) = true := by simpa using h1
    have H : Hid (OpnAt w (x.tell page)) := by rw [hs]; exact h
    clear h h1 hs e1 hlen hf0 hf1 c4
    go_enter Try.func29, Try.ntmps29
    go_wp2_with fail
    go_quiet (fail)
    go_wp2
    go_end0
    exact ⟨rfl, H.out.drewN _, (Keeps.refl w _).drewN _⟩
  · have hd : decide (page < x.first) = false := by simpa using h1
    by_cases h2 : x.first + (x.told.length : Int) ≤ page
    · have hs : x.tell page = x := by unfold Opn.tell tellT; rw [if_neg (by omega)]
      have hd2 : decide (x.first + (x.told.length : Int) ≤ page) = true := by simpa using h2
      have H : Hid (OpnAt w (x.tell page)) := by rw [hs]; exact h
      clear h h1 h2 hs hlen hf0 hf1 c4
      go_enter Try.func29, Try.ntmps29
      go_wp2_with fail
      go_quiet (fail)
      go_wp2
      go_end0
      exact ⟨rfl, H.out.drewN _, (Keeps.refl w _).drewN _⟩
    · have hd2 : decide (x.first + (x.told.length : Int) ≤ page) = false := by simpa using h2
      obtain ⟨i, hi⟩ : ∃ i : Nat, page - x.first = (i : Int) := ⟨(page - x.first).toNat, by omega⟩
      have hw1 : IntKind.i64.wrap (page - x.first) = (i : Int) := by rw [IntWalk.i64_in _ (by omega)]; exact hi
      have hil : i < x.told.length := by omega
      have hz1 : (i : Int) < (x.told.length : Int) := by omega
      have hz0 : (0 : Int) ≤ (i : Int) := by omega
      have ht : x.tell page = { x with told := x.told.set i true } := by
        unfold Opn.tell tellT
        rw [if_pos (by omega), hi]
        rfl
      have cr : w.cell? ⟨x.r, i, none⟩ = some (.bool (x.told.getD i false)) := by
        rw [h.row.cell, tcells]
        simp [hil]
      cases hb : x.told.getD i false with
      | true =>
        rw [hb] at cr
        have hs : x.tell page = x := by rw [ht, set_same x.told i (by rw [List.getD_eq_getElem?_getD, List.getElem?_eq_getElem hil] at hb; rw [List.getElem?_eq_getElem hil]; simpa using hb)]
        have H : Hid (OpnAt w (x.tell page)) := by rw [hs]; exact h
        clear h h1 h2 hs hlen hf0 hf1 c4 ht hi hb hil
        generalize x.told.length = n at *
        go_enter Try.func29, Try.ntmps29
        go_wp2_with fail
        go_quiet (fail)
        go_wp2
        go_end0
        exact ⟨rfl, H.out.drewN _, (Keeps.refl w _).drewN _⟩
      | false =>
        rw [hb] at cr
        have hL := left_set x.told i (by rw [List.getD_eq_getElem?_getD, List.getElem?_eq_getElem hil] at hb; rw [List.getElem?_eq_getElem hil]; simpa using hb)
        have hll := left_le x.told
        obtain ⟨q, hq⟩ : ∃ q : Nat, leftN x.told = q + 1 := ⟨leftN (x.told.set i true), hL.symm⟩
        have hw2 : IntKind.i64.wrap (((q + 1 : Nat) : Int) - 1) = (q : Int) := by rw [IntWalk.i64_in _ (by omega)]; omega
        rw [hq] at c4
        have z3 : w.frozen? ⟨x.r, i, none⟩ = false := frozen_of_row w _ _ _ _ h.row
        have z4 : w.frozen? ⟨x.o, 4, none⟩ = false := frozen_of_row w _ _ _ _ h.box
        have hne := h.ne
        have H : Hid (OpnAt w x) := h
        have HT : Hid _ := ht
        have HQ : Hid _ := hq
        have HL : Hid _ := hL
        clear h h1 h2 hlen hf0 hf1 ht hi hb hil hq hL hll
        generalize hn : x.told.length = n at *
        have HN : Hid _ := hn
        clear hn
        go_enter Try.func29, Try.ntmps29
        go_wp2_with fail
        go_quiet (fail)
        go_wp2
        go_region
        go_wp2
        go_end0
        have hwq : wrap64 (q : Int) = (q : Int) := Go.IntWalk.wrap64_in _ (by have := left_le x.told; have := H.out.len; have := HQ.out; omega)
        rw [hwq]
        have h' := H.out.drewN (nq + 1)
        have hK : Keeps w (w.drewN (nq + 1)) fun c => c = x.o ∨ c = x.r := (Keeps.refl w _).drewN _
        refine ⟨rfl, ?_, (hK.trans (Keeps.set _ _ _ _) fun _ _ e => Or.inr e).trans (Keeps.set _ _ _ _) fun _ _ e => Or.inl e⟩
        rw [HT.out]
        have hq' : leftN (x.told.set i true) = q := by have := HQ.out; have := HL.out; omega
        refine ⟨?_, ?_, by simpa using H.out.len, H.out.f0, H.out.f1, H.out.u⟩
        · have k1 := (heap_setCell_other (w.drewN (nq + 1)) ⟨x.r, i, none⟩ x.o (.bool true) hne).trans h'.box
          have k2 := heap_setCell_same _ x.o 4 _ _ (.int .i64 q) k1
          refine k2.trans ?_
          simp [ocells, hq']
        · have k1 := heap_setCell_same _ x.r i _ _ (.bool true) h'.row
          refine (heap_setCell_other _ ⟨x.o, 4, none⟩ x.r _ (Ne.symm hne)).trans (k1.trans ?_)
          simp [tcells, List.map_set]
end Go.Proofs.Ytjijgpdfoilijaa
