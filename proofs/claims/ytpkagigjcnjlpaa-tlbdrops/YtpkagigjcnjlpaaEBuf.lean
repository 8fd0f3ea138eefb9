/- Rows of entries, and a buffer, as they lie. -/
import Derived.Test.YtpkagigjcnjlpaaERefC
import Derived.OwnWalk
import Derived.Deep.AppendLies
import Derived.Laws.IdiomCopy
namespace Go.Proofs.Ytpkagigjcnjlpaa
open Go.RowKit

def ecs (L : List Ent) : List Value := L.flatMap fun x => (ecells x).toList
theorem ecs_append (L M : List Ent) : ecs (L ++ M) = ecs L ++ ecs M := by simp [ecs]
theorem ecs_snoc (L : List Ent) (x : Ent) : ecs (L ++ [x]) = ecs L ++ (ecells x).toList := by simp [ecs]
theorem ecs_cons (x : Ent) (L : List Ent) : ecs (x :: L) = (ecells x).toList ++ ecs L := by simp [ecs]
theorem ecs_len : ∀ L : List Ent, (ecs L).length = L.length * 6
  | [] => rfl
  | x :: L => by
    rw [ecs_cons, List.length_append, ecs_len L, List.length_cons, show (ecells x).toList.length = 6 from rfl]
    omega
theorem one_cells (x : Ent) : ∀ u ∈ (ecells x).toList, u.oneCell' = true := by
  intro u hu
  simp [ecells] at hu
  rcases hu with rfl | rfl | rfl | rfl | rfl | rfl <;> rfl
theorem ecs_one (L : List Ent) : ∀ u ∈ ecs L, u.oneCell' = true := by
  intro u hu
  obtain ⟨x, _, hx⟩ := List.mem_flatMap.1 hu
  exact one_cells x u hx
theorem ecs_at : ∀ (L : List Ent) (k j : Nat), k < L.length → j < 6 → (ecs L)[k * 6 + j]? = (ecells (L.getD k Ent.zero))[j]? := by
  intro L
  induction L with
  | nil => intro k j hk; simp at hk
  | cons x L ih =>
    intro k j hk hj
    have hl : (ecells x).toList.length = 6 := rfl
    rw [ecs_cons]
    cases k with
    | zero =>
      rw [List.getElem?_append_left (by rw [hl]; omega)]
      simp
    | succ k =>
      rw [List.getElem?_append_right (by rw [hl]; omega), hl, show (k + 1) * 6 + j - 6 = k * 6 + j by omega, ih k j (by simpa using hk) hj]
      simp
/-- A row's head, told by its cells. -/
def Head (cur : Array Value) (L : List Ent) : Prop := ∀ k, k < L.length → ∀ t, t < 6 → cur[k * 6 + t]? = (ecells (L.getD k Ent.zero))[t]?
theorem ent_some (x : Ent) {t : Nat} (ht : t < 6) : ∃ u, (ecells x)[t]? = some u := ⟨_, Array.getElem?_eq_getElem (by simpa [ecells] using ht)⟩
theorem take_of_head {cur : Array Value} {L : List Ent} (h : Head cur L) : cur.toList.take (L.length * 6) = ecs L := by
  apply List.ext_getElem?
  intro n
  by_cases hn : n < L.length * 6
  · rw [List.getElem?_take_of_lt hn, Array.getElem?_toList]
    have e : n = n / 6 * 6 + n % 6 := by omega
    rw [e, ecs_at L (n / 6) (n % 6) (by omega) (by omega)]
    exact h _ (by omega) _ (by omega)
  · rw [List.getElem?_eq_none (by simp; omega), List.getElem?_eq_none (by rw [ecs_len]; omega)]
theorem head_of_take {cur : Array Value} {L : List Ent} (h : cur.toList.take (L.length * 6) = ecs L) : Head cur L := by
  intro k hk t ht
  rw [← ecs_at L k t hk ht, ← h, List.getElem?_take_of_lt (by omega), Array.getElem?_toList]

/-- Cells written one behind the other. -/
def wrt (cur : Array Value) : Nat → List Value → Array Value
  | _, [] => cur
  | o, v :: r => wrt (cur.setIfInBounds o v) (o + 1) r
theorem wrt_size : ∀ (vs : List Value) (cur : Array Value) (o : Nat), (wrt cur o vs).size = cur.size
  | [], _, _ => rfl
  | v :: r, cur, o => by rw [wrt, wrt_size r]; simp
theorem wrt_out : ∀ (vs : List Value) (cur : Array Value) (o j : Nat), (j < o ∨ o + vs.length ≤ j) → (wrt cur o vs)[j]? = cur[j]?
  | [], _, _, _, _ => rfl
  | v :: r, cur, o, j, h => by
    rw [wrt, wrt_out r _ _ j (by simp at h; omega), Array.getElem?_setIfInBounds_ne (by simp at h; omega)]
theorem wrt_in : ∀ (vs : List Value) (cur : Array Value) (o j : Nat), j < vs.length → o + vs.length ≤ cur.size → (wrt cur o vs)[o + j]? = vs[j]?
  | [], _, _, _, hj, _ => by simp at hj
  | v :: r, cur, o, 0, _, hs => by
    rw [wrt, wrt_out r _ _ _ (Or.inl (by omega))]
    have : o < cur.size := by simp at hs; omega
    simp [this]
  | v :: r, cur, o, j + 1, hj, hs => by
    rw [wrt, show o + (j + 1) = o + 1 + j by omega, wrt_in r _ (o + 1) j (by simpa using hj) (by simp at hs ⊢; omega)]
    simp
theorem heap_setCells : ∀ (vs : List Value) (w : World) (g o : Nat) (cur : Array Value) (t : TypeId), w.heap[g]? = some (.cells cur t (0, 0)) → (w.setCells g o vs).heap[g]? = some (.cells (wrt cur o vs) t (0, 0))
  | [], _, _, _, _, _, h => h
  | v :: r, w, g, o, cur, t, h => by
    rw [World.setCells, wrt]
    exact heap_setCells r _ g (o + 1) _ t (heap_setCell_same w g o cur t v h)
theorem grown_setCells : ∀ (vs : List Value) (w : World) (g o : Nat), w.grownBy (w.setCells g o vs) (some g)
  | [], w, g, _ => World.grownBy.refl w _
  | v :: r, w, g, o => by
    have h1 : w.grownBy (w.setCell ⟨g, o, none⟩ v) (some g) := ⟨rfl, rfl, rfl, by simp, fun k hk hne => heap_setCell_other w _ k v (fun e => hne (by rw [e]))⟩
    have h2 := grown_setCells r (w.setCell ⟨g, o, none⟩ v) g (o + 1)
    exact ⟨h2.os.trans h1.os, h2.tape.trans h1.tape, h2.output.trans h1.output, Nat.le_trans h1.size h2.size, fun k hk hne => (h2.block k (Nat.lt_of_lt_of_le hk h1.size) hne).trans (h1.block k hk hne)⟩
theorem grown_set (w : World) (g o : Nat) (v : Value) : w.grownBy (w.setCell ⟨g, o, none⟩ v) (some g) := ⟨rfl, rfl, rfl, by simp, fun k hk hne => heap_setCell_other w _ k v (fun e => hne (by rw [e]))⟩
theorem grown_trans {a b c : World} {row : Option Nat} (h1 : a.grownBy b row) (h2 : b.grownBy c row) : a.grownBy c row :=
  ⟨h2.os.trans h1.os, h2.tape.trans h1.tape, h2.output.trans h1.output, Nat.le_trans h1.size h2.size, fun k hk hne => (h2.block k (Nat.lt_of_lt_of_le hk h1.size) hne).trans (h1.block k hk hne)⟩
theorem grown_below {a b : World} (h : Below a.heap.size a b) (row : Option Nat) : a.grownBy b row := ⟨h.os, h.tape, h.output, h.size, fun k hk _ => h.block k hk⟩

/-- A row of entries that a call owns. -/
def Own (B : Nat) (w : World) (v : Value) (l : List Ent) : Prop := w.ownsRow B 26 6 v l.length (ecs l)
theorem Own.mk' {B : Nat} {w : World} {g c : Nat} {cur : Array Value} {l : List Ent} (hB : B ≤ g) (hg : w.heap[g]? = some (.cells cur 26 (0, 0))) (hl : l.length ≤ c) (hc : c ≤ maxLen) (hs : cur.size = c * 6) (h : Head cur l) : Own B w (.slice (some ⟨g, 0, none⟩) l.length c) l :=
  ⟨ecs_len l, Or.inr ⟨g, c, cur, rfl, hB, hg, hl, hc, hs, take_of_head h⟩⟩
theorem Own.cases' {B : Nat} {w : World} {v : Value} {l : List Ent} (h : Own B w v l) : (v = .slice none 0 0 ∧ l = []) ∨ ∃ g c cur, v = .slice (some ⟨g, 0, none⟩) l.length c ∧ B ≤ g ∧ g < w.heap.size ∧ w.heap[g]? = some (.cells cur 26 (0, 0)) ∧ l.length ≤ c ∧ c ≤ maxLen ∧ cur.size = c * 6 ∧ Head cur l := by
  rcases h.2 with ⟨rfl, h0⟩ | ⟨g, cap, cur, rfl, hb, hg, h1, h2, h3, ht⟩
  · exact Or.inl ⟨rfl, List.eq_nil_of_length_eq_zero h0⟩
  · exact Or.inr ⟨g, cap, cur, rfl, hb, (Array.getElem?_eq_some_iff.1 hg).1, hg, h1, h2, h3, head_of_take ht⟩
theorem Own.kept {B : Nat} {w w' : World} {v : Value} {l : List Ent} {row : Option Nat} (h : Own B w v l) (hg : w.grownBy w' row) (hne : v.ownBlock = none ∨ v.ownBlock ≠ row) : Own B w' v l := World.ownsRow.kept h hg hne
theorem Own.below {B : Nat} {w w' : World} {v : Value} {l : List Ent} (h : Own B w v l) (hb : Below w.heap.size w w') : Own B w' v l := h.kept (grown_below hb none) (by cases v.ownBlock <;> simp)
/-- Six cells of a row. -/
theorem head_cells {w : World} {g : Nat} {cur : Array Value} (hg : w.heap[g]? = some (.cells cur 26 (0, 0))) {k : Nat} {x : Ent} (h : ∀ t, t < 6 → cur[k * 6 + t]? = (ecells x)[t]?) :
    w.cell? ⟨g, k * 6, none⟩ = some (.int .i64 x.asid) ∧ w.cell? ⟨g, k * 6 + 1, none⟩ = some (.int .i64 x.first) ∧ w.cell? ⟨g, k * 6 + 2, none⟩ = some (.int .i64 x.order) ∧ w.cell? ⟨g, k * 6 + 3, none⟩ = some (.int .i64 x.base) ∧ w.cell? ⟨g, k * 6 + 4, none⟩ = some (.bool x.writ) ∧ w.cell? ⟨g, k * 6 + 5, none⟩ = some (.bool x.exe) := by
  refine ⟨?_, ?_, ?_, ?_, ?_, ?_⟩
  · rw [cell_of_row w g _ cur _ _ hg]; exact h 0 (by omega)
  · rw [cell_of_row w g _ cur _ _ hg]; exact h 1 (by omega)
  · rw [cell_of_row w g _ cur _ _ hg]; exact h 2 (by omega)
  · rw [cell_of_row w g _ cur _ _ hg]; exact h 3 (by omega)
  · rw [cell_of_row w g _ cur _ _ hg]; exact h 4 (by omega)
  · rw [cell_of_row w g _ cur _ _ hg]; exact h 5 (by omega)

/-- A buffer: its entries' value v, what it holds, whether it is broken. -/
structure Buf (B : Nat) (w : World) (p : Nat) (v : Value) (l : List Ent) (k : Bool) : Prop where
  base : B ≤ p
  ptr : Laid w p 62 #[v, .bool k]
  row : Own B w v l
  len : l.length ≤ 64
  may : ∀ x ∈ l, mayB x = true ∧ x.base ≤ 9223372036854775807

/-- What a call does that works on a buffer: all else stays. -/
structure Step (w w' : World) (p : Nat) (v v' : Value) : Prop where
  os : w'.os = w.os
  tape : w'.tape = w.tape
  output : w'.output = w.output
  size : w.heap.size ≤ w'.heap.size
  block : ∀ q, q < w.heap.size → q ≠ p → some q ≠ v.ownBlock → w'.heap[q]? = w.heap[q]?
  own : v'.ownBlock = v.ownBlock ∨ ∀ g, v'.ownBlock = some g → w.heap.size ≤ g
theorem Step.of_below {w w' : World} (h : Below w.heap.size w w') (p : Nat) (v : Value) : Step w w' p v v := ⟨h.os, h.tape, h.output, h.size, fun q hq _ _ => h.block q hq, Or.inl rfl⟩
theorem Step.trans {a b c : World} {p : Nat} {u v x : Value} (h1 : Step a b p u v) (h2 : Step b c p v x) : Step a c p u x := by
  refine ⟨h2.os.trans h1.os, h2.tape.trans h1.tape, h2.output.trans h1.output, Nat.le_trans h1.size h2.size, fun q hq hp hu => ?_, ?_⟩
  · refine (h2.block q (Nat.lt_of_lt_of_le hq h1.size) hp fun e => ?_).trans (h1.block q hq hp hu)
    rcases h1.own with e' | e'
    · exact hu (e.trans e')
    · have := e' q e.symm
      omega
  · rcases h2.own with e2 | e2
    · rw [e2]
      exact h1.own
    · exact Or.inr fun g hg => Nat.le_trans h1.size (e2 g hg)
theorem Step.below {B : Nat} {w w' : World} {p : Nat} {v v' : Value} {l : List Ent} {k : Bool} (h : Step w w' p v v') (b : Buf B w p v l k) (hB : B ≤ w.heap.size) : Below B w w' :=
  ⟨h.os, h.tape, h.output, h.size, fun q hq => h.block q (by omega) (by have := b.base; omega) (fun e => by have := (World.ownsRow.lt b.row q e.symm).1; omega)⟩
theorem Buf.below {B : Nat} {w w' : World} {p : Nat} {v : Value} {l : List Ent} {k : Bool} (b : Buf B w p v l k) (hb : Below w.heap.size w w') : Buf B w' p v l k :=
  ⟨b.base, b.ptr.below hb, b.row.below hb, b.len, b.may⟩
theorem Buf.lower {B B' : Nat} {w : World} {p : Nat} {v : Value} {l : List Ent} {k : Bool} (b : Buf B w p v l k) (h : B' ≤ B) : Buf B' w p v l k := by
  refine ⟨by have := b.base; omega, b.ptr, ?_, b.len, b.may⟩
  refine ⟨b.row.1, ?_⟩
  rcases b.row.2 with h' | ⟨g, cap, cur, h1, h2, h3⟩
  · exact Or.inl h'
  · exact Or.inr ⟨g, cap, cur, h1, by omega, h3⟩
theorem Buf.cells {B : Nat} {w : World} {p : Nat} {v : Value} {l : List Ent} {k : Bool} (b : Buf B w p v l k) : w.cell? ⟨p, 0, none⟩ = some v ∧ w.cell? ⟨p, 1, none⟩ = some (.bool k) := ⟨b.ptr.cell 0, b.ptr.cell 1⟩
theorem Laid.frozen {w : World} {b : Nat} {t : TypeId} {cs : Array Value} (h : Laid w b t cs) (o : Nat) : w.frozen? ⟨b, o, none⟩ = false := by
  unfold Laid at h
  simp [World.frozen?, h]
/-- The buffer's row is no struct. -/
theorem Buf.apart {B : Nat} {w : World} {p : Nat} {v : Value} {l : List Ent} {k : Bool} (b : Buf B w p v l k) : some p ≠ v.ownBlock := by
  intro e
  rcases b.row.cases' with ⟨rfl, _⟩ | ⟨g, c, cur, rfl, _, _, hg, _⟩
  · simp [Value.ownBlock] at e
  · simp [Value.ownBlock] at e
    exact ne_of_tag b.ptr hg (by decide) e
end Go.Proofs.Ytpkagigjcnjlpaa
