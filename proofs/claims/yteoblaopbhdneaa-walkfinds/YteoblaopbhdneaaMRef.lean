/- The document's own memory, a list of lists: what its New and Has answer. -/
import Derived.Test.YteoblaopbhdneaaMNew
namespace Go.Proofs.Yteoblaopbhdneaa
open Go.RowKit

theorem info_u64 : (Try.prog.info? 50).map (fun i => (i.zero, i.size, i.bytes)) = some (some (.int .u64 0), 1, 8) := by kernel_rfl
theorem info_row : (Try.prog.info? 67).map (fun i => (i.zero, i.size, i.bytes)) = some (some (.slice none 0 0), 1, 24) := by kernel_rfl

/-- A row of eight words at block r. -/
def Row8 (w : World) (r : Nat) (g : Nat → Nat) : Prop := ∃ c : Array Value, w.heap[r]? = some (.cells c 50 (0, 0)) ∧ ∀ j, j < 8 → c[j]? = some (.int .u64 (g j))
theorem Row8.lt {w : World} {r : Nat} {g : Nat → Nat} (h : Row8 w r g) : r < w.heap.size := by obtain ⟨c, h, _⟩ := h; exact (Array.getElem?_eq_some_iff.1 h).1
theorem Row8.below {w w' : World} {r : Nat} {g : Nat → Nat} (h : Row8 w r g) (hb : Below w.heap.size w w') : Row8 w' r g := by
  have hl := h.lt
  obtain ⟨c, h1, h2⟩ := h
  exact ⟨c, (hb.block r hl).trans h1, h2⟩
theorem Row8.kept {w w' : World} {r : Nat} {g : Nat → Nat} {row : Option Nat} (h : Row8 w r g) (hg : w.grownBy w' row) (hr : some r ≠ row) : Row8 w' r g := by
  have hl := h.lt
  obtain ⟨c, h1, h2⟩ := h
  exact ⟨c, (hg.block r hl hr).trans h1, h2⟩

/-- The list of lists at block q: its rows R, their words f. -/
structure Ref (B : Nat) (w : World) (q n : Nat) (R : Nat → Nat) (f : Nat → Nat) : Prop where
  hq : B ≤ q
  top : ∃ c : Array Value, w.heap[q]? = some (.cells c 67 (0, 0)) ∧ ∀ k, k < n → ∃ cap : Nat, c[k]? = some (.slice (some ⟨R k, 0, none⟩) 8 cap)
  rows : ∀ k, k < n → B ≤ R k ∧ Row8 w (R k) (fun j => f (k * 8 + j))
  inj : ∀ k k', k < n → k' < n → R k = R k' → k = k'

def rowV (r : Nat) : Value := .slice (some ⟨r, 0, none⟩) 8 8
def RefPost (w : World) (n : Nat) (e : Ending) (w' : World) : Prop := ∃ (q cap : Nat) (R : Nat → Nat), e = .returned (.slice (some ⟨q, 0, none⟩) n cap) ∧ Ref w.heap.size w' q n R (fun _ => 0) ∧ Below w.heap.size w w'

theorem made_u64 (n j : Nat) (h : j < n) : (madeCells #[.int .u64 0] n)[j]? = some (.int .u64 0) := by
  unfold madeCells
  rw [Array.getElem?_map, Array.getElem?_range, if_pos h]
  simp [Nat.mod_one]

/-- make([]uint64, 8), told. -/
theorem make8 : ∃ z : Array Value, (∀ w : World, (Instr.makeSlice 67 (.int .i64 8) (.int .i64 8)).run Try.prog w = .ok (.slice (some ⟨w.heap.size, 0, none⟩) 8 8) (w.alloc (.cells z 50))) ∧ ∀ j, j < 8 → z[j]? = some (.int .u64 0) := by
  obtain ⟨i, hi, hz0, hz1, hz2⟩ := info_parts info_u64
  refine ⟨madeCells #[.int .u64 0] 8, fun w => ?_, fun j hj => made_u64 8 j hj⟩
  have hmk := run_make (P := Try.prog) w 67 50 i _ Try.underlying67 hi hz0 .i64 .i64 8 8 (by omega) (by omega) (by rw [hz2]; omega) (by omega)
  rw [hz1] at hmk
  exact hmk

theorem own_ne_row {w : World} {B n s : Nat} {v : Value} {xs : List Value} {r : Nat} {g : Nat → Nat} (h : w.ownsRow B 67 s v n xs) (hr : Row8 w r g) : some r ≠ v.ownBlock := by
  intro e
  rcases h.2 with ⟨rfl, _⟩ | ⟨q, cap, cur, rfl, _, hg, _⟩
  · simp [Value.ownBlock] at e
  · simp [Value.ownBlock] at e
    subst e
    obtain ⟨c, hc, _⟩ := hr
    rw [hg] at hc
    simp at hc

theorem ref_of_own {w w' : World} {n : Nat} {v : Value} {Rs : List Nat} (h1 : 1 ≤ n) (hl : Rs.length = n) (hown : w'.ownsRow w.heap.size 67 1 v n (Rs.map rowV)) (hr : ∀ r ∈ Rs, w.heap.size ≤ r ∧ Row8 w' r (fun _ => 0)) (hnd : Rs.Nodup) (L : Below w.heap.size w w') :
    RefPost w n (.returned v) w' := by
  rcases hown.2 with ⟨_, h0⟩ | ⟨q, cap, cur, rfl, hb, hg, _, _, _, ht⟩
  · omega
  · refine ⟨q, cap, fun k => Rs.getD k 0, rfl, ⟨hb, ⟨cur, hg, fun k hk => ⟨8, ?_⟩⟩, fun k hk => ?_, fun k k' hk hk' e => ?_⟩, L⟩
    · have e1 : (cur.toList.take (n * 1))[k]? = (Rs.map rowV)[k]? := by rw [ht]
      rw [List.getElem?_take_of_lt (by omega), Array.getElem?_toList, List.getElem?_map, List.getElem?_eq_getElem (by omega)] at e1
      rw [e1]
      simp [rowV, List.getD_eq_getElem?_getD, List.getElem?_eq_getElem (show k < Rs.length by omega)]
    · have := hr (Rs.getD k 0) (by rw [List.getD_eq_getElem?_getD, List.getElem?_eq_getElem (show k < Rs.length by omega)]; exact List.getElem_mem _)
      exact this
    · simp only [List.getD_eq_getElem?_getD, List.getElem?_eq_getElem (show k < Rs.length by omega), List.getElem?_eq_getElem (show k' < Rs.length by omega), Option.getD_some] at e
      have hp := List.pairwise_iff_getElem.1 hnd
      rcases Nat.lt_trichotomy k k' with hlt | hlt | hlt
      · exact absurd e (hp k k' (by omega) (by omega) hlt)
      · exact hlt
      · exact absurd e.symm (hp k' k (by omega) (by omega) hlt)

set_option maxRecDepth 100000 in
set_option maxHeartbeats 1000000 in
theorem refNew_any (n : Nat) (w : World) (h1 : 1 ≤ n) (h2 : n ≤ 1000) : Calls Try.prog 26 #[.int .i64 n] w (RefPost w n) := by
  obtain ⟨i, hi, hz0, hz1, hz2⟩ := info_parts info_row
  obtain ⟨z, hmk, hz⟩ := make8
  have HZ : Hid _ := hz
  clear hz
  go_enter Try.func26, Try.ntmps26
  go_wp2
  go_loopw [3, 4] (fun v i W => ∃ (k : Nat) (Rs : List Nat), k ≤ n ∧ i = .int .i64 k ∧ Rs.length = k ∧ W.ownsRow w.heap.size 67 1 v k (Rs.map rowV) ∧ (∀ r ∈ Rs, w.heap.size ≤ r ∧ Row8 W r (fun _ => 0)) ∧ Rs.Nodup ∧ Below w.heap.size w W) (fun _ i _ => n - (intOf i).toNat)
  case atStart => exact ⟨0, [], by omega, rfl, rfl, World.ownsRow_nil _ _ _ _, by simp, by simp, Below.refl _ _⟩
  case round =>
    obtain ⟨k, Rs, hk, rfl, hlen, hown, hrs, hnd, L⟩ := hrel
    have HL : Hid _ := hlen
    have HR : Hid _ := hrs
    clear hlen hrs
    by_cases hlt : k < n
    · go_wp2_with (at_builtin; go_loud (refine wpList_append_own _ rfl (.tmp 10) (.tmp 12) 33 rfl w.heap.size 67 i (.slice none 0 0) 1 24 Try.underlying33 hi hz0 hz1 hz2 rfl (by decide) u3 k (Rs.map rowV) rfl ((hown.alloc _).alloc _) ⟨wr.heap.size + 1, 0, none⟩ 1 1 [rowV wr.heap.size] rfl rfl ?c1 ?c2 ?c3 ?c4 ?c5 ?_))
      case c1 =>
        intro j u hj
        cases j with
        | zero => simp at hj; subst hj; exact cell_of_row _ _ 0 _ _ (0, 0) (heap_alloc2_new wr _ _)
        | succ j => simp at hj
      case c2 => intro u hu; simp at hu; subst hu; rfl
      case c3 => simp [maxLen]; omega
      case c4 => omega
      case c5 => have := L.size; simp; omega
      intro v' w' hown' hgrow hnil
      have B1 : Below wr.heap.size wr ((wr.alloc (.cells z 50)).alloc (.cells #[rowV wr.heap.size] 67)) := ((Below.refl _ _).alloc (Nat.le_refl _) _).alloc (by simp) _
      have hr0 : Row8 ((wr.alloc (.cells z 50)).alloc (.cells #[rowV wr.heap.size] 67)) wr.heap.size (fun _ => 0) := ⟨z, heap_alloc2_old wr _ _, HZ.out⟩
      have own1 := (hown.alloc (.cells z 50)).alloc (.cells #[rowV wr.heap.size] 67)
      have HR1 : Hid (∀ r ∈ Rs ++ [wr.heap.size], w.heap.size ≤ r ∧ Row8 w' r (fun _ => 0)) := by
        intro r hr
        rcases List.mem_append.1 hr with hr | hr
        · obtain ⟨q1, q2⟩ := HR.out r hr
          exact ⟨q1, (q2.below B1).kept hgrow (own_ne_row own1 (q2.below B1))⟩
        · obtain rfl := List.mem_singleton.1 hr
          exact ⟨L.size, hr0.kept hgrow (own_ne_row own1 hr0)⟩
      have hnd1 : (Rs ++ [wr.heap.size]).Nodup := by
        rw [List.nodup_append]
        refine ⟨hnd, by simp, fun a ha b hb => ?_⟩
        obtain rfl := List.mem_singleton.1 hb
        have := (HR.out a ha).2.lt
        omega
      have L1 : Below w.heap.size w w' := (L.trans (B1.mono L.size)).grown hgrow (by have := L.size; simp; omega) (fun r e => (own1.lt r e).1)
      have hl1 : (Rs ++ [wr.heap.size]).length = k + 1 := by rw [List.length_append, HL.out]; rfl
      have HL1 : Hid _ := hl1
      have hm : List.map rowV Rs ++ [rowV wr.heap.size] = List.map rowV (Rs ++ [wr.heap.size]) := by simp
      rw [hm] at hown'
      clear hm hl1 B1 hr0 own1 hgrow hnil hown HR HL hnd L
      go_wp2
      go_roundw
      case rel => exact ⟨k + 1, _, by omega, by go_num, HL1.out, hown', HR1.out, hnd1, L1⟩
      case measure => simp [intOf]; omega
    · obtain rfl : k = n := by omega
      go_wp2
      go_ret
      exact ref_of_own h1 HL.out hown HR.out hnd L
end Go.Proofs.Yteoblaopbhdneaa
