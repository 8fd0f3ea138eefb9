/- Rows of records of any kind: how they lie, what is read of them, appended and stored. No word of the program. -/
import Derived.WalkKit
import Derived.WalkSpells
import Derived.WalkLawsBesides
import Derived.Below
import Derived.OwnWalk
import Derived.Deep.AppendLies
import Derived.Laws.OwnMore
import Derived.Laws.IdiomCopy
import Derived.Deep.RegionHeld3
namespace Go.Proofs.Ytoimmapdkapheaa
set_option maxRecDepth 4000
open Go.RowKit

/-- A kind of record: its type, how many cells it has, and which. -/
structure Rec (α : Type) where
  t : TypeId
  n : Nat
  bytes : Nat
  zero : α
  cells : α → List Value
  len : ∀ x, (cells x).length = n
  npos : 0 < n
  one : ∀ x, ∀ u ∈ cells x, u.oneCell' = true

section
variable {α : Type} (R : Rec α)

def Rec.all (L : List α) : List Value := L.flatMap R.cells
theorem Rec.all_nil : R.all [] = [] := rfl
theorem Rec.all_append (L M : List α) : R.all (L ++ M) = R.all L ++ R.all M := by simp [Rec.all]
theorem Rec.all_one (x : α) : R.all [x] = R.cells x := by simp [Rec.all]
theorem Rec.all_snoc (L : List α) (x : α) : R.all (L ++ [x]) = R.all L ++ R.cells x := by simp [Rec.all]
theorem Rec.all_cons (x : α) (L : List α) : R.all (x :: L) = R.cells x ++ R.all L := by simp [Rec.all]
theorem Rec.all_len : ∀ L : List α, (R.all L).length = L.length * R.n
  | [] => by simp [Rec.all]
  | x :: L => by
    rw [R.all_cons, List.length_append, Rec.all_len L, List.length_cons, R.len, Nat.add_mul]
    omega
theorem Rec.all_oneCell (L : List α) : ∀ u ∈ R.all L, u.oneCell' = true := by
  intro u hu
  obtain ⟨x, _, hx⟩ := List.mem_flatMap.1 hu
  exact R.one x u hx
theorem Rec.all_at : ∀ (L : List α) (k j : Nat), k < L.length → j < R.n → (R.all L)[k * R.n + j]? = (R.cells (L.getD k R.zero))[j]? := by
  intro L
  induction L with
  | nil => intro k j hk; simp at hk
  | cons x L ih =>
    intro k j hk hj
    rw [R.all_cons]
    cases k with
    | zero =>
      rw [List.getElem?_append_left (by rw [R.len]; omega)]
      simp
    | succ k =>
      have e : (k + 1) * R.n + j = R.n + (k * R.n + j) := by rw [Nat.add_mul]; omega
      rw [e, List.getElem?_append_right (by rw [R.len]; omega), R.len, show R.n + (k * R.n + j) - R.n = k * R.n + j by omega, ih k j (by simpa using hk) hj]
      simp
theorem Rec.div_lt {L : List α} {j : Nat} (h : j < L.length * R.n) : j / R.n < L.length ∧ j % R.n < R.n ∧ j = j / R.n * R.n + j % R.n := by
  refine ⟨(Nat.div_lt_iff_lt_mul R.npos).2 h, Nat.mod_lt _ R.npos, ?_⟩
  have := Nat.div_add_mod j R.n
  rw [Nat.mul_comm] at this
  exact this.symm
theorem Rec.cell_some (x : α) {j : Nat} (hj : j < R.n) : ∃ u, (R.cells x)[j]? = some u := ⟨_, List.getElem?_eq_getElem (by rw [R.len]; exact hj)⟩

/-- A row that a call owns. -/
def Row (B : Nat) (w : World) (v : Value) (l : List α) : Prop := w.ownsRow B R.t R.n v l.length (R.all l)
/-- The cells of a record, at a place. -/
def At (w : World) (b o : Nat) (x : α) : Prop := ∀ j, j < R.n → w.cell? ⟨b, o + j, none⟩ = (R.cells x)[j]?
/-- A row that is only read, at any place of its block. -/
def Seen (w : World) (ao : Option Addr) (c : Nat) (l : List α) : Prop :=
  (ao = none → l = [] ∧ c = 0) ∧ ∀ ad, ao = some ad → ∃ g off, ad = ⟨g, off, none⟩ ∧ g < w.heap.size ∧ ∀ k, k < l.length → At R w g (off + k * R.n) (l.getD k R.zero)
end

section
variable {α : Type} {R : Rec α} {B : Nat} {w w' : World} {v : Value} {l : List α}

theorem Row.nil (R : Rec α) (B : Nat) (w : World) : Row R B w (.slice none 0 0) [] := World.ownsRow_nil _ _ _ _
theorem Row.cases (h : Row R B w v l) : (v = .slice none 0 0 ∧ l = []) ∨ ∃ g c cur, v = .slice (some ⟨g, 0, none⟩) l.length c ∧ B ≤ g ∧ g < w.heap.size ∧ w.heap[g]? = some (.cells cur R.t (0, 0)) ∧ l.length ≤ c ∧ c ≤ maxLen ∧ cur.size = c * R.n ∧ cur.toList.take (l.length * R.n) = R.all l := by
  rcases h.2 with ⟨rfl, h0⟩ | ⟨g, cap, cur, rfl, hb, hg, h1, h2, h3, ht⟩
  · exact Or.inl ⟨rfl, List.eq_nil_of_length_eq_zero h0⟩
  · exact Or.inr ⟨g, cap, cur, rfl, hb, (Array.getElem?_eq_some_iff.1 hg).1, hg, h1, h2, h3, ht⟩
theorem Row.form (h : Row R B w v l) : ∃ ao c, v = .slice ao l.length c := by
  rcases h.cases with ⟨rfl, rfl⟩ | ⟨g, c, cur, rfl, _⟩
  · exact ⟨none, 0, rfl⟩
  · exact ⟨_, _, rfl⟩
theorem Row.kept {row : Option Nat} (h : Row R B w v l) (hg : w.grownBy w' row) (hne : v.ownBlock = none ∨ v.ownBlock ≠ row) : Row R B w' v l := World.ownsRow.kept h hg hne
theorem Row.below (h : Row R B w v l) (hb : Below w.heap.size w w') : Row R B w' v l :=
  h.kept (row := none) ⟨hb.os, hb.tape, hb.output, hb.size, fun k hk _ => hb.block k hk⟩ (by cases v.ownBlock <;> simp)
theorem Row.lower {B' : Nat} (h : Row R B w v l) (hB : B' ≤ B) : Row R B' w v l := by
  refine ⟨h.1, ?_⟩
  rcases h.2 with h' | ⟨g, cap, cur, h1, h2, h3⟩
  · exact Or.inl h'
  · exact Or.inr ⟨g, cap, cur, h1, by omega, h3⟩
theorem Row.lt (h : Row R B w v l) : ∀ g, v.ownBlock = some g → B ≤ g ∧ g < w.heap.size := World.ownsRow.lt h
theorem Row.tag (h : Row R B w v l) {g : Nat} (hg : v.ownBlock = some g) : ∃ cur, w.heap[g]? = some (.cells cur R.t (0, 0)) := by
  rcases h.cases with ⟨rfl, rfl⟩ | ⟨g', c, cur, rfl, _, _, h1, _⟩
  · simp [Value.ownBlock] at hg
  · simp [Value.ownBlock] at hg
    subst hg
    exact ⟨cur, h1⟩
/-- What another block's change leaves. -/
theorem Row.same (h : Row R B w v l) (hb : ∀ g, v.ownBlock = some g → w'.heap[g]? = w.heap[g]?) : Row R B w' v l := by
  refine ⟨h.1, ?_⟩
  rcases h.2 with h' | ⟨g, cap, cur, rfl, h2, h3, h4⟩
  · exact Or.inl h'
  · exact Or.inr ⟨g, cap, cur, rfl, h2, (hb g rfl).trans h3, h4⟩
theorem row_cell {g : Nat} {cur : Array Value} (hg : w.heap[g]? = some (.cells cur R.t (0, 0))) (ht : cur.toList.take (l.length * R.n) = R.all l) {k : Nat} (hk : k < l.length) : At R w g (k * R.n) (l.getD k R.zero) := by
  intro j hj
  have hlt : k * R.n + j < l.length * R.n := by
    have : (k + 1) * R.n ≤ l.length * R.n := Nat.mul_le_mul_right _ hk
    rw [Nat.add_mul] at this
    omega
  rw [cell_of_row w g _ cur _ _ hg, ← R.all_at l k j hk hj, ← ht, List.getElem?_take_of_lt hlt, Array.getElem?_toList]
theorem Row.at {ao : Option Addr} {n c : Nat} (h : Row R B w (.slice ao n c) l) {k : Nat} (hk : k < l.length) : ∃ g, ao = some ⟨g, 0, none⟩ ∧ n = l.length ∧ B ≤ g ∧ g < w.heap.size ∧ l.length ≤ c ∧ c ≤ maxLen ∧ At R w g (k * R.n) (l.getD k R.zero) := by
  rcases h.cases with ⟨_, rfl⟩ | ⟨g, c', cur, hv, hB, hlt, hg, hlc, hcm, _, ht⟩
  · simp at hk
  · cases hv
    exact ⟨g, rfl, rfl, hB, hlt, hlc, hcm, row_cell hg ht hk⟩
theorem Row.seen {ao : Option Addr} {n c : Nat} (h : Row R B w (.slice ao n c) l) : n = l.length ∧ Seen R w ao c l := by
  rcases h.cases with ⟨e, rfl⟩ | ⟨g, c', cur, e, _, hlt, hg, _, _, _, ht⟩
  · cases e
    exact ⟨rfl, fun _ => ⟨rfl, rfl⟩, fun ad h => (by cases h)⟩
  · cases e
    refine ⟨rfl, fun h => (by cases h), fun ad e => ?_⟩
    cases e
    exact ⟨g, 0, rfl, hlt, fun k hk => by rw [Nat.zero_add]; exact row_cell hg ht hk⟩
theorem At.same {b o : Nat} {x : α} (h : At R w b o x) (hb : w'.heap[b]? = w.heap[b]?) : At R w' b o x := fun j hj => by
  rw [World.cell?_of_block (w := w) (w' := w') (a := ⟨b, o + j, none⟩) hb]
  exact h j hj
theorem Seen.same {ao : Option Addr} {c : Nat} (h : Seen R w ao c l) (hs : w.heap.size ≤ w'.heap.size) (hb : ∀ ad, ao = some ad → w'.heap[ad.block]? = w.heap[ad.block]?) : Seen R w' ao c l := by
  refine ⟨h.1, fun ad e => ?_⟩
  obtain ⟨g, off, rfl, hg, hc⟩ := h.2 ad e
  exact ⟨g, off, rfl, Nat.lt_of_lt_of_le hg hs, fun k hk => (hc k hk).same (hb _ e)⟩
theorem Seen.below {ao : Option Addr} {c : Nat} (h : Seen R w ao c l) (hb : Below w.heap.size w w') : Seen R w' ao c l :=
  h.same hb.size fun ad e => by
    obtain ⟨g, off, rfl, hg, _⟩ := h.2 ad e
    exact hb.block g hg
theorem Seen.news {ao : Option Addr} {c : Nat} (h : Seen R w ao c l) : ∀ ad, ao = some ad → ∀ j u, (R.all l)[j]? = some u → w.cell? (ad.add j) = some u := by
  intro ad e j u hj
  obtain ⟨g, off, rfl, _, hc⟩ := h.2 ad e
  have hjl : j < l.length * R.n := by
    have := (List.getElem?_eq_some_iff.1 hj).1
    rwa [R.all_len] at this
  obtain ⟨h1, h2, h3⟩ := R.div_lt hjl
  rw [Addr.add_lit, show off + j = off + j / R.n * R.n + j % R.n by omega, hc _ h1 _ h2, ← R.all_at l _ _ h1 h2, ← h3]
  exact hj
theorem Seen.one {b o : Nat} {x : α} (hb : b < w.heap.size) (h : At R w b o x) (c : Nat) : Seen R w (some ⟨b, o, none⟩) c [x] := by
  refine ⟨fun e => (by cases e), fun ad e => ?_⟩
  cases e
  refine ⟨b, o, rfl, hb, fun k hk => ?_⟩
  simp at hk
  subst hk
  simpa using h
/-- A record that lies as a block of its own. -/
theorem At.new (w : World) (x : α) (o : Obj) (ho : o = .cells (R.cells x).toArray R.t (0, 0)) : At R (w.alloc o) w.heap.size 0 x := by
  intro j hj
  subst ho
  rw [cell_of_row _ w.heap.size _ _ _ _ (heap_alloc_new w _), Nat.zero_add]
  simp
/-- A part of a row. -/
theorem Seen.part {g off c : Nat} (h : Seen R w (some ⟨g, off, none⟩) c l) (m n o c' : Nat) (hm : m + n ≤ l.length) (ho : n = 0 ∨ o = off + m * R.n) : Seen R w (some ⟨g, o, none⟩) c' ((l.drop m).take n) := by
  refine ⟨fun e => (by cases e), fun ad e => ?_⟩
  cases e
  obtain ⟨g', off', e, hg, hc⟩ := h.2 _ rfl
  cases e
  refine ⟨g, o, rfl, hg, fun k hk => ?_⟩
  have hk' : k < n ∧ k < l.length - m := by
    simp at hk
    omega
  rcases ho with rfl | rfl
  · omega
  · have h1 := hc (m + k) (by omega)
    have e2 : ((l.drop m).take n).getD k R.zero = l.getD (m + k) R.zero := by
      rw [List.getD_eq_getElem?_getD, List.getD_eq_getElem?_getD, List.getElem?_take_of_lt hk'.1, List.getElem?_drop]
    rw [e2, show off + m * R.n + k * R.n = off + (m + k) * R.n by rw [Nat.add_mul]; omega]
    exact h1
end

/-- What the program must say of a kind of record. -/
structure Kin (P : Program) {α : Type} (R : Rec α) (s : TypeId) : Prop where
  und : P.underlying s = some (.slice R.t)
  inf : ∃ i z, P.info? R.t = some i ∧ i.zero = some z ∧ i.size = R.n ∧ i.bytes = R.bytes ∧ z.cells.size = R.n
theorem Kin.of {P : Program} {α : Type} {R : Rec α} {s : TypeId} {z : Value} (hu : P.underlying s = some (.slice R.t)) (hi : (P.info? R.t).map (fun i => (i.zero, i.size, i.bytes)) = some (some z, R.n, R.bytes)) (hz : z.cells.size = R.n) : Kin P R s := by
  refine ⟨hu, ?_⟩
  cases h : P.info? R.t with
  | none => rw [h] at hi; simp at hi
  | some i =>
    rw [h] at hi
    simp at hi
    exact ⟨i, z, rfl, hi.1, hi.2.1, hi.2.2, hz⟩

section
variable {P : Program} {α : Type} {R : Rec α} {s : TypeId}

/-- 'append(xs, ys...)' -/
theorem run_app (k : Kin P R s) (w : World) (ty : TypeId) (B : Nat) (v : Value) (l1 l2 : List α) (h : Row R B w v l1) (ao : Option Addr) (c : Nat) (hs : Seen R w ao c l2) (hm : l1.length + l2.length ≤ maxLen) (hb : (l1.length + l2.length) * R.bytes ≤ 140737488355328) (hB : B ≤ w.heap.size) :
    ∃ v' w', (Builtin.append_ #[s, s] ty #[v, .slice ao l2.length c]).run P w = .ok v' w' ∧ Row R B w' v' (l1 ++ l2) ∧ w.grownBy w' v.ownBlock := by
  obtain ⟨i, z, hi, hz0, hz1, hz2, hzs⟩ := k.inf
  cases ao with
  | none =>
    obtain ⟨rfl, rfl⟩ := hs.1 rfl
    rw [List.append_nil]
    exact ⟨v, w, run_append_owned_none (P := P) w B s ty R.t i R.n k.und hi _ _ _ h, h, World.grownBy.refl _ _⟩
  | some ad =>
    obtain ⟨v', w', hr, h2, h3, h4⟩ := run_append_own (P := P) w B s ty R.t i z R.n R.bytes k.und hi hz0 hz1 hz2 hzs R.npos v l1.length (R.all l1) h ad l2.length c (R.all l2) (R.all_len l2) (hs.news ad rfl) (R.all_oneCell l2) hm hb hB
    refine ⟨v', w', hr, ?_, h3⟩
    unfold Row
    rw [R.all_append, List.length_append]
    exact h2
/-- .. at 'Oper.wp'. -/
theorem wp_app (k : Kin P R s) {o : Oper} {a : Act} {w : World} {K : Act → World → Prop} {Q : Exit → Act → World → Prop} (x y : Operand) (ho : o.op = .call { callee := .builtin .append, args := #[x, y], argTypes := #[s, s] })
    (B : Nat) (v : Value) (l1 l2 : List α) (hv : a.eval x = v) (h : Row R B w v l1) (ao : Option Addr) (n c : Nat) (hy : a.eval y = .slice ao n c) (hn : n = l2.length) (hs : Seen R w ao c l2) (hm : l1.length + l2.length ≤ maxLen) (hb : (l1.length + l2.length) * R.bytes ≤ 140737488355328) (hB : B ≤ w.heap.size)
    (hK : ∀ v' w', Row R B w' v' (l1 ++ l2) → w.grownBy w' v.ownBlock → K (a.put o.dst v') w') : Oper.wp P o a w K Q := by
  subst hn
  obtain ⟨v', w', hr, h2, h3⟩ := run_app k w o.type B v l1 l2 h ao c hs hm hb hB
  unfold Oper.wp execOp
  simp only [ho, resolve, invoke, builtin, Sem.run_bind, Sem.run_pure, Result.andThen_ok, List.map_toArray, List.map_cons, List.map_nil, hv, hy, hr]
  exact hK v' w' h2 h3
/-- .. at a step of a region that draws. -/
theorem step_app (k : Kin P R s) {ops : Array Oper} {o : Oper} {a : Act} {w : World} {K : Act → World → Prop} {Q : Exit → Act → World → Prop} {E : Prop} (hg : o.guard = none) (x y : Operand) (ho : o.op = .call { callee := .builtin .append, args := #[x, y], argTypes := #[s, s] })
    (B : Nat) (v : Value) (l1 l2 : List α) (hv : a.eval x = v) (h : Row R B w v l1) (ao : Option Addr) (n c : Nat) (hy : a.eval y = .slice ao n c) (hn : n = l2.length) (hs : Seen R w ao c l2) (hm : l1.length + l2.length ≤ maxLen) (hb : (l1.length + l2.length) * R.bytes ≤ 140737488355328) (hB : B ≤ w.heap.size)
    (hK : ∀ v' w', Row R B w' v' (l1 ++ l2) → w.grownBy w' v.ownBlock → K (a.put o.dst v') w') : if Region.wanted o (yielded ops a.tmps) = true then Oper.wp P o a w K Q else E := by
  rw [if_pos (show Region.wanted o (yielded ops a.tmps) = true by simp [Region.wanted, hg])]
  exact wp_app k x y ho B v l1 l2 hv h ao n c hy hn hs hm hb hB hK
/-- .. in a region that doesn't. -/
theorem list_app (k : Kin P R s) {ops : Array Oper} {rest : List Oper} {o : Oper} {a : Act} {w : World} {Q : Exit → Act → World → Prop} (hg : o.guard = none) (x y : Operand) (ho : o.op = .call { callee := .builtin .append, args := #[x, y], argTypes := #[s, s] })
    (B : Nat) (v : Value) (l1 l2 : List α) (hv : a.eval x = v) (h : Row R B w v l1) (ao : Option Addr) (n c : Nat) (hy : a.eval y = .slice ao n c) (hn : n = l2.length) (hs : Seen R w ao c l2) (hm : l1.length + l2.length ≤ maxLen) (hb : (l1.length + l2.length) * R.bytes ≤ 140737488355328) (hB : B ≤ w.heap.size)
    (hK : ∀ v' w', Row R B w' v' (l1 ++ l2) → w.grownBy w' v.ownBlock → wpList P ops Q rest (a.put o.dst v') w') : wpList P ops Q (o :: rest) a w :=
  wpList_plain hg fun _ hK' => wp_app k x y ho B v l1 l2 hv h ao n c hy hn hs hm hb hB fun v' w' h2 h3 => hK' _ _ (hK v' w' h2 h3)
end
end Go.Proofs.Ytoimmapdkapheaa
