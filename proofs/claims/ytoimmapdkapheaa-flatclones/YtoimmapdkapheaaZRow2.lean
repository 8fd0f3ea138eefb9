/- Rows of records: what is stored into one; what a call leaves as it was. No word of the program. -/
import Derived.Test.YtoimmapdkapheaaZRow
namespace Go.Proofs.Ytoimmapdkapheaa
set_option maxRecDepth 4000
open Go.RowKit

/-- All but the blocks of s stays as it was. -/
structure Keeps (w w' : World) (s : Nat → Prop) : Prop where
  os : w'.os = w.os
  tape : w'.tape = w.tape
  output : w'.output = w.output
  size : w.heap.size ≤ w'.heap.size
  block : ∀ b, b < w.heap.size → ¬ s b → w'.heap[b]? = w.heap[b]?
section
variable {a w w' w'' : World} {s s' : Nat → Prop}
theorem Keeps.refl (w : World) (s : Nat → Prop) : Keeps w w s := ⟨rfl, rfl, rfl, Nat.le_refl _, fun _ _ _ => rfl⟩
theorem Keeps.of_below (h : Below w.heap.size w w') (s : Nat → Prop) : Keeps w w' s := ⟨h.os, h.tape, h.output, h.size, fun b hb _ => h.block b hb⟩
theorem Keeps.of_grown {row : Option Nat} (h : w.grownBy w' row) : Keeps w w' (fun b => row = some b) := ⟨h.os, h.tape, h.output, h.size, fun b hb hn => h.block b hb fun e => hn e.symm⟩
theorem Keeps.mono (h : Keeps w w' s) (hs : ∀ b, b < w.heap.size → s b → s' b) : Keeps w w' s' := ⟨h.os, h.tape, h.output, h.size, fun b hb hn => h.block b hb fun e => hn (hs b hb e)⟩
theorem Keeps.trans (h : Keeps w w' s) (h' : Keeps w' w'' s') (hs : ∀ b, b < w.heap.size → s' b → s b) : Keeps w w'' s :=
  ⟨h'.os.trans h.os, h'.tape.trans h.tape, h'.output.trans h.output, Nat.le_trans h.size h'.size, fun b hb hn => (h'.block b (Nat.lt_of_lt_of_le hb h.size) fun e => hn (hs b hb e)).trans (h.block b hb hn)⟩
theorem Keeps.below {B : Nat} (h : Keeps w w' s) (hB : B ≤ w.heap.size) (hs : ∀ b, b < w.heap.size → s b → B ≤ b) : Below B w w' :=
  ⟨h.os, h.tape, h.output, h.size, fun b hb => h.block b (by omega) fun e => by have := hs b (by omega) e; omega⟩
theorem Keeps.cell (h : Keeps w w' s) {b : Nat} (hb : b < w.heap.size) (hn : ¬ s b) (o : Nat) : w'.cell? ⟨b, o, none⟩ = w.cell? ⟨b, o, none⟩ := World.cell?_of_block (h.block b hb hn)
theorem Keeps.frozen (h : Keeps w w' s) {b : Nat} (hb : b < w.heap.size) (hn : ¬ s b) (o : Nat) : w'.frozen? ⟨b, o, none⟩ = w.frozen? ⟨b, o, none⟩ := World.frozen?_of_block (h.block b hb hn)
theorem Keeps.set (w : World) (g o : Nat) (v : Value) : Keeps w (w.setCell ⟨g, o, none⟩ v) (fun b => b = g) := ⟨rfl, rfl, rfl, by simp, fun k hk hne => heap_setCell_other w _ k v (fun e => hne e)⟩
theorem Keeps.sets : ∀ (vs : List Value) (w : World) (g o : Nat), Keeps w (w.setCells g o vs) (fun b => b = g)
  | [], w, _, _ => Keeps.refl w _
  | v :: r, w, g, o => (Keeps.set w g o v).trans (Keeps.sets r (w.setCell ⟨g, o, none⟩ v) g (o + 1)) fun _ _ h => h
theorem Keeps.row {α : Type} {R : Rec α} {B : Nat} {v : Value} {l : List α} (h : Keeps w w' s) (hr : Row R B w v l) (hn : ∀ g, v.ownBlock = some g → ¬ s g) : Row R B w' v l :=
  hr.same fun g hg => h.block g (hr.lt g hg).2 (hn g hg)
theorem Keeps.at {α : Type} {R : Rec α} {b o : Nat} {x : α} (h : Keeps w w' s) (hr : At R w b o x) (hb : b < w.heap.size) (hn : ¬ s b) : At R w' b o x := hr.same (h.block b hb hn)
theorem Keeps.seen {α : Type} {R : Rec α} {ao : Option Addr} {c : Nat} {l : List α} (h : Keeps w w' s) (hr : Seen R w ao c l) (hn : ∀ ad, ao = some ad → ¬ s ad.block) : Seen R w' ao c l :=
  hr.same h.size fun ad e => by
    obtain ⟨g, off, rfl, hg, _⟩ := hr.2 ad e
    exact h.block g hg (hn _ e)
end

/-- Cells written one behind the other. -/
def wrs (cur : Array Value) : Nat → List Value → Array Value
  | _, [] => cur
  | o, v :: r => wrs (cur.setIfInBounds o v) (o + 1) r
theorem wrs_size : ∀ (vs : List Value) (cur : Array Value) (o : Nat), (wrs cur o vs).size = cur.size
  | [], _, _ => rfl
  | v :: r, cur, o => by rw [wrs, wrs_size r]; simp
theorem wrs_out : ∀ (vs : List Value) (cur : Array Value) (o j : Nat), (j < o ∨ o + vs.length ≤ j) → (wrs cur o vs)[j]? = cur[j]?
  | [], _, _, _, _ => rfl
  | v :: r, cur, o, j, h => by
    rw [wrs, wrs_out r _ _ j (by simp at h; omega), Array.getElem?_setIfInBounds_ne (by simp at h; omega)]
theorem wrs_in : ∀ (vs : List Value) (cur : Array Value) (o j : Nat), j < vs.length → o + vs.length ≤ cur.size → (wrs cur o vs)[o + j]? = vs[j]?
  | [], _, _, _, hj, _ => by simp at hj
  | v :: r, cur, o, 0, _, hs => by
    rw [wrs, wrs_out r _ _ _ (Or.inl (by omega))]
    have : o < cur.size := by simp at hs; omega
    simp [this]
  | v :: r, cur, o, j + 1, hj, hs => by
    rw [wrs, show o + (j + 1) = o + 1 + j by omega, wrs_in r _ (o + 1) j (by simpa using hj) (by simp at hs ⊢; omega)]
    simp
theorem heap_sets : ∀ (vs : List Value) (w : World) (g o : Nat) (cur : Array Value) (t : TypeId), w.heap[g]? = some (.cells cur t (0, 0)) → (w.setCells g o vs).heap[g]? = some (.cells (wrs cur o vs) t (0, 0))
  | [], _, _, _, _, _, h => h
  | v :: r, w, g, o, cur, t, h => by
    rw [World.setCells, wrs]
    exact heap_sets r _ g (o + 1) _ t (heap_setCell_same w g o cur t v h)

section
variable {α : Type} {R : Rec α} {B : Nat} {w : World} {l : List α}
/-- A row told by its cells. -/
theorem Row.of_cells {w' : World} {g c : Nat} {cur : Array Value} {l' : List α} (hB : B ≤ g) (hg : w'.heap[g]? = some (.cells cur R.t (0, 0))) (hl : l'.length ≤ c) (hc : c ≤ maxLen) (hs : cur.size = c * R.n) (h : ∀ k, k < l'.length → ∀ j, j < R.n → cur[k * R.n + j]? = (R.cells (l'.getD k R.zero))[j]?) : Row R B w' (.slice (some ⟨g, 0, none⟩) l'.length c) l' := by
  refine ⟨R.all_len l', Or.inr ⟨g, c, cur, rfl, hB, hg, hl, hc, hs, ?_⟩⟩
  apply List.ext_getElem?
  intro n
  by_cases hn : n < l'.length * R.n
  · rw [List.getElem?_take_of_lt hn, Array.getElem?_toList]
    obtain ⟨h1, h2, h3⟩ := R.div_lt hn
    rw [h3, R.all_at l' _ _ h1 h2]
    exact h _ h1 _ h2
  · rw [List.getElem?_eq_none (by simp; omega), List.getElem?_eq_none (by rw [R.all_len]; omega)]
theorem Row.cur {g n c : Nat} (h : Row R B w (.slice (some ⟨g, 0, none⟩) n c) l) : n = l.length ∧ B ≤ g ∧ g < w.heap.size ∧ ∃ cur : Array Value, w.heap[g]? = some (.cells cur R.t (0, 0)) ∧ l.length ≤ c ∧ c ≤ maxLen ∧ cur.size = c * R.n ∧ ∀ k, k < l.length → ∀ j, j < R.n → cur[k * R.n + j]? = (R.cells (l.getD k R.zero))[j]? := by
  rcases h.cases with ⟨e, _⟩ | ⟨g', c', cur, e, hB, hlt, hg, hlc, hcm, hs, ht⟩
  · cases e
  · cases e
    refine ⟨rfl, hB, hlt, cur, hg, hlc, hcm, hs, fun k hk j hj => ?_⟩
    have := row_cell (R := R) hg ht hk j hj
    rwa [cell_of_row w g _ cur _ _ hg] at this
/-- Cells stored within one of them: it is another one. -/
theorem Row.sets {g n c : Nat} (h : Row R B w (.slice (some ⟨g, 0, none⟩) n c) l) (i o : Nat) (vs : List Value) (x : α) (hi : i < l.length) (ho : o + vs.length ≤ R.n)
    (h1 : ∀ j, j < vs.length → (R.cells x)[o + j]? = vs[j]?) (h2 : ∀ j, j < R.n → (j < o ∨ o + vs.length ≤ j) → (R.cells x)[j]? = (R.cells (l.getD i R.zero))[j]?) : Row R B (w.setCells g (i * R.n + o) vs) (.slice (some ⟨g, 0, none⟩) n c) (l.set i x) := by
  obtain ⟨rfl, hB, _, cur, hg, hlc, hcm, hs, hc⟩ := h.cur
  have hin : (i + 1) * R.n ≤ c * R.n := Nat.mul_le_mul_right _ (by omega)
  rw [Nat.add_mul] at hin
  have key := Row.of_cells (R := R) (B := B) (l' := l.set i x) (c := c) hB (heap_sets vs w g (i * R.n + o) cur R.t hg) (by simpa using hlc) hcm (by rw [wrs_size]; exact hs) (by
    intro k hk j hj
    have hk' : k < l.length := by simpa using hk
    by_cases hki : k = i
    · subst hki
      rw [List.getD_eq_getElem?_getD, List.getElem?_set_self hk', Option.getD_some]
      by_cases hjo : j < o ∨ o + vs.length ≤ j
      · rw [wrs_out _ _ _ _ (by omega), hc k hk' j hj, h2 j hj hjo]
      · obtain ⟨t, rfl⟩ : ∃ t, j = o + t := ⟨j - o, by omega⟩
        rw [← Nat.add_assoc, wrs_in vs cur (k * R.n + o) t (by omega) (by omega), h1 t (by omega)]
    · have hmul : k * R.n + j < i * R.n ∨ i * R.n + R.n ≤ k * R.n + j := by
        rcases Nat.lt_or_gt_of_ne hki with h' | h'
        · have : (k + 1) * R.n ≤ i * R.n := Nat.mul_le_mul_right _ h'
          rw [Nat.add_mul] at this
          omega
        · have : (i + 1) * R.n ≤ k * R.n := Nat.mul_le_mul_right _ h'
          rw [Nat.add_mul] at this
          omega
      rw [wrs_out _ _ _ _ (by omega), hc k hk' j hj, List.getD_eq_getElem?_getD, List.getD_eq_getElem?_getD, List.getElem?_set_ne (Ne.symm hki)])
  simpa using key
/-- One is stored over another one. -/
theorem Row.put {g n c : Nat} (h : Row R B w (.slice (some ⟨g, 0, none⟩) n c) l) (i : Nat) (x : α) (hi : i < l.length) : Row R B (w.setCells g (i * R.n) (R.cells x)) (.slice (some ⟨g, 0, none⟩) n c) (l.set i x) := by
  have := h.sets i 0 (R.cells x) x hi (by rw [R.len]; omega) (fun j _ => by rw [Nat.zero_add]) (fun j hj hn => by rw [R.len] at hn; omega)
  simpa using this
/-- One of its cells is stored. -/
theorem Row.put1 {g n c : Nat} (h : Row R B w (.slice (some ⟨g, 0, none⟩) n c) l) (i o : Nat) (u : Value) (x : α) (hi : i < l.length) (ho : o < R.n) (hx : R.cells x = (R.cells (l.getD i R.zero)).set o u) : Row R B (w.setCell ⟨g, i * R.n + o, none⟩ u) (.slice (some ⟨g, 0, none⟩) n c) (l.set i x) := by
  have := h.sets i o [u] x hi (by simp; omega) (fun j hj => by
    obtain rfl : j = 0 := by simpa using hj
    rw [hx, Nat.add_zero, List.getElem?_set_self (by rw [R.len]; exact ho)]
    rfl) (fun j hj hn => by rw [hx, List.getElem?_set_ne (by simp at hn; omega)])
  exact this
theorem Row.frozen {g n c : Nat} (h : Row R B w (.slice (some ⟨g, 0, none⟩) n c) l) (j : Nat) : w.frozen? ⟨g, j, none⟩ = false := by
  obtain ⟨_, _, _, cur, hg, _⟩ := h.cur
  exact frozen_of_row w g j cur _ hg
end
end Go.Proofs.Ytoimmapdkapheaa
