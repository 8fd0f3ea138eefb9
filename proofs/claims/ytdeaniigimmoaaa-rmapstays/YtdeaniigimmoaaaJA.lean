/- Own texts, joined: ZRow, ZRow2, ZMap, Z, ZSep, ZMap2, QMx. -/
import Derived.WalkKit
import Derived.WalkSpells
import Derived.WalkLawsBesides
import Derived.Below
import Derived.OwnWalk
import Derived.Deep.AppendLies
import Derived.Laws.OwnMore
import Derived.Laws.IdiomCopy
import Derived.Deep.RegionHeld3
import Derived.DeepKeys4
import Derived.Maps.OwnOps
import Derived.Maps.Keyed
import Derived.Maps.RangeWalk
import Derived.Test.YtdeaniigimmoaaaRows
import Derived.BigQuiet
import Derived.Deep.QuietTactic
import Derived.Lib.IfaceEq
import Derived.Lib.IfaceNeq
/- Rows of records of any kind: how they lie, what is read of them, appended and stored. No word of the program. -/
namespace Go.Proofs.Ytdeaniigimmoaaa
open Go.RowKit

/-- A kind of record: its type, how many cells it has, and which. -/
structure Rec (α : Type) where
  t : TypeId
  n : Nat
  bytes : Nat
  zero : α
  cells : α → List Value
  len : ∀ x, (cells x).length = n
  npos : 0 < n
  one : ∀ x, ∀ u ∈ cells x, u.oneCell' = true

section
variable {α : Type} (R : Rec α)

def Rec.all (L : List α) : List Value := L.flatMap R.cells
theorem Rec.all_nil : R.all [] = [] := rfl
theorem Rec.all_append (L M : List α) : R.all (L ++ M) = R.all L ++ R.all M := by simp [Rec.all]
theorem Rec.all_one (x : α) : R.all [x] = R.cells x := by simp [Rec.all]
theorem Rec.all_snoc (L : List α) (x : α) : R.all (L ++ [x]) = R.all L ++ R.cells x := by simp [Rec.all]
theorem Rec.all_cons (x : α) (L : List α) : R.all (x :: L) = R.cells x ++ R.all L := by simp [Rec.all]
theorem Rec.all_len : ∀ L : List α, (R.all L).length = L.length * R.n
  | [] => by simp [Rec.all]
  | x :: L => by
    rw [R.all_cons, List.length_append, Rec.all_len L, List.length_cons, R.len, Nat.add_mul]
    omega
theorem Rec.all_oneCell (L : List α) : ∀ u ∈ R.all L, u.oneCell' = true := by
  intro u hu
  obtain ⟨x, _, hx⟩ := List.mem_flatMap.1 hu
  exact R.one x u hx
theorem Rec.all_at : ∀ (L : List α) (k j : Nat), k < L.length → j < R.n → (R.all L)[k * R.n + j]? = (R.cells (L.getD k R.zero))[j]? := by
  intro L
  induction L with
  | nil => intro k j hk; simp at hk
  | cons x L ih =>
    intro k j hk hj
    rw [R.all_cons]
    cases k with
    | zero =>
      rw [List.getElem?_append_left (by rw [R.len]; omega)]
      simp
    | succ k =>
      have e : (k + 1) * R.n + j = R.n + (k * R.n + j) := by rw [Nat.add_mul]; omega
      rw [e, List.getElem?_append_right (by rw [R.len]; omega), R.len, show R.n + (k * R.n + j) - R.n = k * R.n + j by omega, ih k j (by simpa using hk) hj]
      simp
theorem Rec.div_lt {L : List α} {j : Nat} (h : j < L.length * R.n) : j / R.n < L.length ∧ j % R.n < R.n ∧ j = j / R.n * R.n + j % R.n := by
  refine ⟨(Nat.div_lt_iff_lt_mul R.npos).2 h, Nat.mod_lt _ R.npos, ?_⟩
  have := Nat.div_add_mod j R.n
  rw [Nat.mul_comm] at this
  exact this.symm
theorem Rec.cell_some (x : α) {j : Nat} (hj : j < R.n) : ∃ u, (R.cells x)[j]? = some u := ⟨_, List.getElem?_eq_getElem (by rw [R.len]; exact hj)⟩

/-- A row that a call owns. -/
def Row (B : Nat) (w : World) (v : Value) (l : List α) : Prop := w.ownsRow B R.t R.n v l.length (R.all l)
/-- The cells of a record, at a place. -/
def At (w : World) (b o : Nat) (x : α) : Prop := ∀ j, j < R.n → w.cell? ⟨b, o + j, none⟩ = (R.cells x)[j]?
/-- A row that is only read, at any place of its block. -/
def Seen (w : World) (ao : Option Addr) (c : Nat) (l : List α) : Prop :=
  (ao = none → l = [] ∧ c = 0) ∧ ∀ ad, ao = some ad → ∃ g off, ad = ⟨g, off, none⟩ ∧ g < w.heap.size ∧ ∀ k, k < l.length → At R w g (off + k * R.n) (l.getD k R.zero)
end

section
variable {α : Type} {R : Rec α} {B : Nat} {w w' : World} {v : Value} {l : List α}

theorem Row.nil (R : Rec α) (B : Nat) (w : World) : Row R B w (.slice none 0 0) [] := World.ownsRow_nil _ _ _ _
theorem Row.cases (h : Row R B w v l) : (v = .slice none 0 0 ∧ l = []) ∨ ∃ g c cur, v = .slice (some ⟨g, 0, none⟩) l.length c ∧ B ≤ g ∧ g < w.heap.size ∧ w.heap[g]? = some (.cells cur R.t (0, 0)) ∧ l.length ≤ c ∧ c ≤ maxLen ∧ cur.size = c * R.n ∧ cur.toList.take (l.length * R.n) = R.all l := by
  rcases h.2 with ⟨rfl, h0⟩ | ⟨g, cap, cur, rfl, hb, hg, h1, h2, h3, ht⟩
  · exact Or.inl ⟨rfl, List.eq_nil_of_length_eq_zero h0⟩
  · exact Or.inr ⟨g, cap, cur, rfl, hb, (Array.getElem?_eq_some_iff.1 hg).1, hg, h1, h2, h3, ht⟩
theorem Row.form (h : Row R B w v l) : ∃ ao c, v = .slice ao l.length c := by
  rcases h.cases with ⟨rfl, rfl⟩ | ⟨g, c, cur, rfl, _⟩
  · exact ⟨none, 0, rfl⟩
  · exact ⟨_, _, rfl⟩
theorem Row.kept {row : Option Nat} (h : Row R B w v l) (hg : w.grownBy w' row) (hne : v.ownBlock = none ∨ v.ownBlock ≠ row) : Row R B w' v l := World.ownsRow.kept h hg hne
theorem Row.below (h : Row R B w v l) (hb : Below w.heap.size w w') : Row R B w' v l :=
  h.kept (row := none) ⟨hb.os, hb.tape, hb.output, hb.size, fun k hk _ => hb.block k hk⟩ (by cases v.ownBlock <;> simp)
theorem Row.lower {B' : Nat} (h : Row R B w v l) (hB : B' ≤ B) : Row R B' w v l := by
  refine ⟨h.1, ?_⟩
  rcases h.2 with h' | ⟨g, cap, cur, h1, h2, h3⟩
  · exact Or.inl h'
  · exact Or.inr ⟨g, cap, cur, h1, by omega, h3⟩
theorem Row.lt (h : Row R B w v l) : ∀ g, v.ownBlock = some g → B ≤ g ∧ g < w.heap.size := World.ownsRow.lt h
theorem Row.tag (h : Row R B w v l) {g : Nat} (hg : v.ownBlock = some g) : ∃ cur, w.heap[g]? = some (.cells cur R.t (0, 0)) := by
  rcases h.cases with ⟨rfl, rfl⟩ | ⟨g', c, cur, rfl, _, _, h1, _⟩
  · simp [Value.ownBlock] at hg
  · simp [Value.ownBlock] at hg
    subst hg
    exact ⟨cur, h1⟩
/-- What another block's change leaves. -/
theorem Row.same (h : Row R B w v l) (hb : ∀ g, v.ownBlock = some g → w'.heap[g]? = w.heap[g]?) : Row R B w' v l := by
  refine ⟨h.1, ?_⟩
  rcases h.2 with h' | ⟨g, cap, cur, rfl, h2, h3, h4⟩
  · exact Or.inl h'
  · exact Or.inr ⟨g, cap, cur, rfl, h2, (hb g rfl).trans h3, h4⟩
theorem row_cell {g : Nat} {cur : Array Value} (hg : w.heap[g]? = some (.cells cur R.t (0, 0))) (ht : cur.toList.take (l.length * R.n) = R.all l) {k : Nat} (hk : k < l.length) : At R w g (k * R.n) (l.getD k R.zero) := by
  intro j hj
  have hlt : k * R.n + j < l.length * R.n := by
    have : (k + 1) * R.n ≤ l.length * R.n := Nat.mul_le_mul_right _ hk
    rw [Nat.add_mul] at this
    omega
  rw [cell_of_row w g _ cur _ _ hg, ← R.all_at l k j hk hj, ← ht, List.getElem?_take_of_lt hlt, Array.getElem?_toList]
theorem Row.at {ao : Option Addr} {n c : Nat} (h : Row R B w (.slice ao n c) l) {k : Nat} (hk : k < l.length) : ∃ g, ao = some ⟨g, 0, none⟩ ∧ n = l.length ∧ B ≤ g ∧ g < w.heap.size ∧ l.length ≤ c ∧ c ≤ maxLen ∧ At R w g (k * R.n) (l.getD k R.zero) := by
  rcases h.cases with ⟨_, rfl⟩ | ⟨g, c', cur, hv, hB, hlt, hg, hlc, hcm, _, ht⟩
  · simp at hk
  · cases hv
    exact ⟨g, rfl, rfl, hB, hlt, hlc, hcm, row_cell hg ht hk⟩
theorem Row.seen {ao : Option Addr} {n c : Nat} (h : Row R B w (.slice ao n c) l) : n = l.length ∧ Seen R w ao c l := by
  rcases h.cases with ⟨e, rfl⟩ | ⟨g, c', cur, e, _, hlt, hg, _, _, _, ht⟩
  · cases e
    exact ⟨rfl, fun _ => ⟨rfl, rfl⟩, fun ad h => (by cases h)⟩
  · cases e
    refine ⟨rfl, fun h => (by cases h), fun ad e => ?_⟩
    cases e
    exact ⟨g, 0, rfl, hlt, fun k hk => by rw [Nat.zero_add]; exact row_cell hg ht hk⟩
theorem At.same {b o : Nat} {x : α} (h : At R w b o x) (hb : w'.heap[b]? = w.heap[b]?) : At R w' b o x := fun j hj => by
  rw [World.cell?_of_block (w := w) (w' := w') (a := ⟨b, o + j, none⟩) hb]
  exact h j hj
theorem Seen.same {ao : Option Addr} {c : Nat} (h : Seen R w ao c l) (hs : w.heap.size ≤ w'.heap.size) (hb : ∀ ad, ao = some ad → w'.heap[ad.block]? = w.heap[ad.block]?) : Seen R w' ao c l := by
  refine ⟨h.1, fun ad e => ?_⟩
  obtain ⟨g, off, rfl, hg, hc⟩ := h.2 ad e
  exact ⟨g, off, rfl, Nat.lt_of_lt_of_le hg hs, fun k hk => (hc k hk).same (hb _ e)⟩
theorem Seen.below {ao : Option Addr} {c : Nat} (h : Seen R w ao c l) (hb : Below w.heap.size w w') : Seen R w' ao c l :=
  h.same hb.size fun ad e => by
    obtain ⟨g, off, rfl, hg, _⟩ := h.2 ad e
    exact hb.block g hg
theorem Seen.news {ao : Option Addr} {c : Nat} (h : Seen R w ao c l) : ∀ ad, ao = some ad → ∀ j u, (R.all l)[j]? = some u → w.cell? (ad.add j) = some u := by
  intro ad e j u hj
  obtain ⟨g, off, rfl, _, hc⟩ := h.2 ad e
  have hjl : j < l.length * R.n := by
    have := (List.getElem?_eq_some_iff.1 hj).1
    rwa [R.all_len] at this
  obtain ⟨h1, h2, h3⟩ := R.div_lt hjl
  rw [Addr.add_lit, show off + j = off + j / R.n * R.n + j % R.n by omega, hc _ h1 _ h2, ← R.all_at l _ _ h1 h2, ← h3]
  exact hj
theorem Seen.one {b o : Nat} {x : α} (hb : b < w.heap.size) (h : At R w b o x) (c : Nat) : Seen R w (some ⟨b, o, none⟩) c [x] := by
  refine ⟨fun e => (by cases e), fun ad e => ?_⟩
  cases e
  refine ⟨b, o, rfl, hb, fun k hk => ?_⟩
  simp at hk
  subst hk
  simpa using h
/-- A record that lies as a block of its own. -/
theorem At.new (w : World) (x : α) (o : Obj) (ho : o = .cells (R.cells x).toArray R.t (0, 0)) : At R (w.alloc o) w.heap.size 0 x := by
  intro j hj
  subst ho
  rw [cell_of_row _ w.heap.size _ _ _ _ (heap_alloc_new w _), Nat.zero_add]
  simp
/-- A part of a row. -/
theorem Seen.part {g off c : Nat} (h : Seen R w (some ⟨g, off, none⟩) c l) (m n o c' : Nat) (hm : m + n ≤ l.length) (ho : n = 0 ∨ o = off + m * R.n) : Seen R w (some ⟨g, o, none⟩) c' ((l.drop m).take n) := by
  refine ⟨fun e => (by cases e), fun ad e => ?_⟩
  cases e
  obtain ⟨g', off', e, hg, hc⟩ := h.2 _ rfl
  cases e
  refine ⟨g, o, rfl, hg, fun k hk => ?_⟩
  have hk' : k < n ∧ k < l.length - m := by
    simp at hk
    omega
  rcases ho with rfl | rfl
  · omega
  · have h1 := hc (m + k) (by omega)
    have e2 : ((l.drop m).take n).getD k R.zero = l.getD (m + k) R.zero := by
      rw [List.getD_eq_getElem?_getD, List.getD_eq_getElem?_getD, List.getElem?_take_of_lt hk'.1, List.getElem?_drop]
    rw [e2, show off + m * R.n + k * R.n = off + (m + k) * R.n by rw [Nat.add_mul]; omega]
    exact h1
end

/-- What the program must say of a kind of record. -/
structure Kin (P : Program) {α : Type} (R : Rec α) (s : TypeId) : Prop where
  und : P.underlying s = some (.slice R.t)
  inf : ∃ i z, P.info? R.t = some i ∧ i.zero = some z ∧ i.size = R.n ∧ i.bytes = R.bytes ∧ z.cells.size = R.n
theorem Kin.of {P : Program} {α : Type} {R : Rec α} {s : TypeId} {z : Value} (hu : P.underlying s = some (.slice R.t)) (hi : (P.info? R.t).map (fun i => (i.zero, i.size, i.bytes)) = some (some z, R.n, R.bytes)) (hz : z.cells.size = R.n) : Kin P R s := by
  refine ⟨hu, ?_⟩
  cases h : P.info? R.t with
  | none => rw [h] at hi; simp at hi
  | some i =>
    rw [h] at hi
    simp at hi
    exact ⟨i, z, rfl, hi.1, hi.2.1, hi.2.2, hz⟩

section
variable {P : Program} {α : Type} {R : Rec α} {s : TypeId}

/-- 'append(xs, ys...)' -/
theorem run_app (k : Kin P R s) (w : World) (ty : TypeId) (B : Nat) (v : Value) (l1 l2 : List α) (h : Row R B w v l1) (ao : Option Addr) (c : Nat) (hs : Seen R w ao c l2) (hm : l1.length + l2.length ≤ maxLen) (hb : (l1.length + l2.length) * R.bytes ≤ 140737488355328) (hB : B ≤ w.heap.size) :
    ∃ v' w', (Builtin.append_ #[s, s] ty #[v, .slice ao l2.length c]).run P w = .ok v' w' ∧ Row R B w' v' (l1 ++ l2) ∧ w.grownBy w' v.ownBlock := by
  obtain ⟨i, z, hi, hz0, hz1, hz2, hzs⟩ := k.inf
  cases ao with
  | none =>
    obtain ⟨rfl, rfl⟩ := hs.1 rfl
    rw [List.append_nil]
    exact ⟨v, w, run_append_owned_none (P := P) w B s ty R.t i R.n k.und hi _ _ _ h, h, World.grownBy.refl _ _⟩
  | some ad =>
    obtain ⟨v', w', hr, h2, h3, h4⟩ := run_append_own (P := P) w B s ty R.t i z R.n R.bytes k.und hi hz0 hz1 hz2 hzs R.npos v l1.length (R.all l1) h ad l2.length c (R.all l2) (R.all_len l2) (hs.news ad rfl) (R.all_oneCell l2) hm hb hB
    refine ⟨v', w', hr, ?_, h3⟩
    unfold Row
    rw [R.all_append, List.length_append]
    exact h2
/-- .. at 'Oper.wp'. -/
theorem wp_app (k : Kin P R s) {o : Oper} {a : Act} {w : World} {K : Act → World → Prop} {Q : Exit → Act → World → Prop} (x y : Operand) (ho : o.op = .call { callee := .builtin .append, args := #[x, y], argTypes := #[s, s] })
    (B : Nat) (v : Value) (l1 l2 : List α) (hv : a.eval x = v) (h : Row R B w v l1) (ao : Option Addr) (n c : Nat) (hy : a.eval y = .slice ao n c) (hn : n = l2.length) (hs : Seen R w ao c l2) (hm : l1.length + l2.length ≤ maxLen) (hb : (l1.length + l2.length) * R.bytes ≤ 140737488355328) (hB : B ≤ w.heap.size)
    (hK : ∀ v' w', Row R B w' v' (l1 ++ l2) → w.grownBy w' v.ownBlock → K (a.put o.dst v') w') : Oper.wp P o a w K Q := by
  subst hn
  obtain ⟨v', w', hr, h2, h3⟩ := run_app k w o.type B v l1 l2 h ao c hs hm hb hB
  unfold Oper.wp execOp
  simp only [ho, resolve, invoke, builtin, Sem.run_bind, Sem.run_pure, Result.andThen_ok, List.map_toArray, List.map_cons, List.map_nil, hv, hy, hr]
  exact hK v' w' h2 h3
/-- .. at a step of a region that draws. -/
theorem step_app (k : Kin P R s) {ops : Array Oper} {o : Oper} {a : Act} {w : World} {K : Act → World → Prop} {Q : Exit → Act → World → Prop} {E : Prop} (hg : o.guard = none) (x y : Operand) (ho : o.op = .call { callee := .builtin .append, args := #[x, y], argTypes := #[s, s] })
    (B : Nat) (v : Value) (l1 l2 : List α) (hv : a.eval x = v) (h : Row R B w v l1) (ao : Option Addr) (n c : Nat) (hy : a.eval y = .slice ao n c) (hn : n = l2.length) (hs : Seen R w ao c l2) (hm : l1.length + l2.length ≤ maxLen) (hb : (l1.length + l2.length) * R.bytes ≤ 140737488355328) (hB : B ≤ w.heap.size)
    (hK : ∀ v' w', Row R B w' v' (l1 ++ l2) → w.grownBy w' v.ownBlock → K (a.put o.dst v') w') : if Region.wanted o (yielded ops a.tmps) = true then Oper.wp P o a w K Q else E := by
  rw [if_pos (show Region.wanted o (yielded ops a.tmps) = true by simp [Region.wanted, hg])]
  exact wp_app k x y ho B v l1 l2 hv h ao n c hy hn hs hm hb hB hK
/-- .. in a region that doesn't. -/
theorem list_app (k : Kin P R s) {ops : Array Oper} {rest : List Oper} {o : Oper} {a : Act} {w : World} {Q : Exit → Act → World → Prop} (hg : o.guard = none) (x y : Operand) (ho : o.op = .call { callee := .builtin .append, args := #[x, y], argTypes := #[s, s] })
    (B : Nat) (v : Value) (l1 l2 : List α) (hv : a.eval x = v) (h : Row R B w v l1) (ao : Option Addr) (n c : Nat) (hy : a.eval y = .slice ao n c) (hn : n = l2.length) (hs : Seen R w ao c l2) (hm : l1.length + l2.length ≤ maxLen) (hb : (l1.length + l2.length) * R.bytes ≤ 140737488355328) (hB : B ≤ w.heap.size)
    (hK : ∀ v' w', Row R B w' v' (l1 ++ l2) → w.grownBy w' v.ownBlock → wpList P ops Q rest (a.put o.dst v') w') : wpList P ops Q (o :: rest) a w :=
  wpList_plain hg fun _ hK' => wp_app k x y ho B v l1 l2 hv h ao n c hy hn hs hm hb hB fun v' w' h2 h3 => hK' _ _ (hK v' w' h2 h3)
end
end Go.Proofs.Ytdeaniigimmoaaa
/- Rows of records: what is stored into one; what a call leaves as it was. No word of the program. -/
namespace Go.Proofs.Ytdeaniigimmoaaa
open Go.RowKit

/-- All but the blocks of s stays as it was. -/
structure Keeps (w w' : World) (s : Nat → Prop) : Prop where
  os : w'.os = w.os
  tape : w'.tape = w.tape
  output : w'.output = w.output
  size : w.heap.size ≤ w'.heap.size
  block : ∀ b, b < w.heap.size → ¬ s b → w'.heap[b]? = w.heap[b]?
section
variable {a w w' w'' : World} {s s' : Nat → Prop}
theorem Keeps.refl (w : World) (s : Nat → Prop) : Keeps w w s := ⟨rfl, rfl, rfl, Nat.le_refl _, fun _ _ _ => rfl⟩
theorem Keeps.of_below (h : Below w.heap.size w w') (s : Nat → Prop) : Keeps w w' s := ⟨h.os, h.tape, h.output, h.size, fun b hb _ => h.block b hb⟩
theorem Keeps.of_grown {row : Option Nat} (h : w.grownBy w' row) : Keeps w w' (fun b => row = some b) := ⟨h.os, h.tape, h.output, h.size, fun b hb hn => h.block b hb fun e => hn e.symm⟩
theorem Keeps.mono (h : Keeps w w' s) (hs : ∀ b, b < w.heap.size → s b → s' b) : Keeps w w' s' := ⟨h.os, h.tape, h.output, h.size, fun b hb hn => h.block b hb fun e => hn (hs b hb e)⟩
theorem Keeps.trans (h : Keeps w w' s) (h' : Keeps w' w'' s') (hs : ∀ b, b < w.heap.size → s' b → s b) : Keeps w w'' s :=
  ⟨h'.os.trans h.os, h'.tape.trans h.tape, h'.output.trans h.output, Nat.le_trans h.size h'.size, fun b hb hn => (h'.block b (Nat.lt_of_lt_of_le hb h.size) fun e => hn (hs b hb e)).trans (h.block b hb hn)⟩
theorem Keeps.below {B : Nat} (h : Keeps w w' s) (hB : B ≤ w.heap.size) (hs : ∀ b, b < w.heap.size → s b → B ≤ b) : Below B w w' :=
  ⟨h.os, h.tape, h.output, h.size, fun b hb => h.block b (by omega) fun e => by have := hs b (by omega) e; omega⟩
theorem Keeps.cell (h : Keeps w w' s) {b : Nat} (hb : b < w.heap.size) (hn : ¬ s b) (o : Nat) : w'.cell? ⟨b, o, none⟩ = w.cell? ⟨b, o, none⟩ := World.cell?_of_block (h.block b hb hn)
theorem Keeps.frozen (h : Keeps w w' s) {b : Nat} (hb : b < w.heap.size) (hn : ¬ s b) (o : Nat) : w'.frozen? ⟨b, o, none⟩ = w.frozen? ⟨b, o, none⟩ := World.frozen?_of_block (h.block b hb hn)
theorem Keeps.set (w : World) (g o : Nat) (v : Value) : Keeps w (w.setCell ⟨g, o, none⟩ v) (fun b => b = g) := ⟨rfl, rfl, rfl, by simp, fun k hk hne => heap_setCell_other w _ k v (fun e => hne e)⟩
theorem Keeps.sets : ∀ (vs : List Value) (w : World) (g o : Nat), Keeps w (w.setCells g o vs) (fun b => b = g)
  | [], w, _, _ => Keeps.refl w _
  | v :: r, w, g, o => (Keeps.set w g o v).trans (Keeps.sets r (w.setCell ⟨g, o, none⟩ v) g (o + 1)) fun _ _ h => h
theorem Keeps.row {α : Type} {R : Rec α} {B : Nat} {v : Value} {l : List α} (h : Keeps w w' s) (hr : Row R B w v l) (hn : ∀ g, v.ownBlock = some g → ¬ s g) : Row R B w' v l :=
  hr.same fun g hg => h.block g (hr.lt g hg).2 (hn g hg)
theorem Keeps.at {α : Type} {R : Rec α} {b o : Nat} {x : α} (h : Keeps w w' s) (hr : At R w b o x) (hb : b < w.heap.size) (hn : ¬ s b) : At R w' b o x := hr.same (h.block b hb hn)
theorem Keeps.seen {α : Type} {R : Rec α} {ao : Option Addr} {c : Nat} {l : List α} (h : Keeps w w' s) (hr : Seen R w ao c l) (hn : ∀ ad, ao = some ad → ¬ s ad.block) : Seen R w' ao c l :=
  hr.same h.size fun ad e => by
    obtain ⟨g, off, rfl, hg, _⟩ := hr.2 ad e
    exact h.block g hg (hn _ e)
end

/-- Cells written one behind the other. -/
def wrs (cur : Array Value) : Nat → List Value → Array Value
  | _, [] => cur
  | o, v :: r => wrs (cur.setIfInBounds o v) (o + 1) r
theorem wrs_size : ∀ (vs : List Value) (cur : Array Value) (o : Nat), (wrs cur o vs).size = cur.size
  | [], _, _ => rfl
  | v :: r, cur, o => by rw [wrs, wrs_size r]; simp
theorem wrs_out : ∀ (vs : List Value) (cur : Array Value) (o j : Nat), (j < o ∨ o + vs.length ≤ j) → (wrs cur o vs)[j]? = cur[j]?
  | [], _, _, _, _ => rfl
  | v :: r, cur, o, j, h => by
    rw [wrs, wrs_out r _ _ j (by simp at h; omega), Array.getElem?_setIfInBounds_ne (by simp at h; omega)]
theorem wrs_in : ∀ (vs : List Value) (cur : Array Value) (o j : Nat), j < vs.length → o + vs.length ≤ cur.size → (wrs cur o vs)[o + j]? = vs[j]?
  | [], _, _, _, hj, _ => by simp at hj
  | v :: r, cur, o, 0, _, hs => by
    rw [wrs, wrs_out r _ _ _ (Or.inl (by omega))]
    have : o < cur.size := by simp at hs; omega
    simp [this]
  | v :: r, cur, o, j + 1, hj, hs => by
    rw [wrs, show o + (j + 1) = o + 1 + j by omega, wrs_in r _ (o + 1) j (by simpa using hj) (by simp at hs ⊢; omega)]
    simp
theorem heap_sets : ∀ (vs : List Value) (w : World) (g o : Nat) (cur : Array Value) (t : TypeId), w.heap[g]? = some (.cells cur t (0, 0)) → (w.setCells g o vs).heap[g]? = some (.cells (wrs cur o vs) t (0, 0))
  | [], _, _, _, _, _, h => h
  | v :: r, w, g, o, cur, t, h => by
    rw [World.setCells, wrs]
    exact heap_sets r _ g (o + 1) _ t (heap_setCell_same w g o cur t v h)

section
variable {α : Type} {R : Rec α} {B : Nat} {w : World} {l : List α}
/-- A row told by its cells. -/
theorem Row.of_cells {w' : World} {g c : Nat} {cur : Array Value} {l' : List α} (hB : B ≤ g) (hg : w'.heap[g]? = some (.cells cur R.t (0, 0))) (hl : l'.length ≤ c) (hc : c ≤ maxLen) (hs : cur.size = c * R.n) (h : ∀ k, k < l'.length → ∀ j, j < R.n → cur[k * R.n + j]? = (R.cells (l'.getD k R.zero))[j]?) : Row R B w' (.slice (some ⟨g, 0, none⟩) l'.length c) l' := by
  refine ⟨R.all_len l', Or.inr ⟨g, c, cur, rfl, hB, hg, hl, hc, hs, ?_⟩⟩
  apply List.ext_getElem?
  intro n
  by_cases hn : n < l'.length * R.n
  · rw [List.getElem?_take_of_lt hn, Array.getElem?_toList]
    obtain ⟨h1, h2, h3⟩ := R.div_lt hn
    rw [h3, R.all_at l' _ _ h1 h2]
    exact h _ h1 _ h2
  · rw [List.getElem?_eq_none (by simp; omega), List.getElem?_eq_none (by rw [R.all_len]; omega)]
theorem Row.cur {g n c : Nat} (h : Row R B w (.slice (some ⟨g, 0, none⟩) n c) l) : n = l.length ∧ B ≤ g ∧ g < w.heap.size ∧ ∃ cur : Array Value, w.heap[g]? = some (.cells cur R.t (0, 0)) ∧ l.length ≤ c ∧ c ≤ maxLen ∧ cur.size = c * R.n ∧ ∀ k, k < l.length → ∀ j, j < R.n → cur[k * R.n + j]? = (R.cells (l.getD k R.zero))[j]? := by
  rcases h.cases with ⟨e, _⟩ | ⟨g', c', cur, e, hB, hlt, hg, hlc, hcm, hs, ht⟩
  · cases e
  · cases e
    refine ⟨rfl, hB, hlt, cur, hg, hlc, hcm, hs, fun k hk j hj => ?_⟩
    have := row_cell (R := R) hg ht hk j hj
    rwa [cell_of_row w g _ cur _ _ hg] at this
/-- Cells stored within one of them: it is another one. -/
theorem Row.sets {g n c : Nat} (h : Row R B w (.slice (some ⟨g, 0, none⟩) n c) l) (i o : Nat) (vs : List Value) (x : α) (hi : i < l.length) (ho : o + vs.length ≤ R.n)
    (h1 : ∀ j, j < vs.length → (R.cells x)[o + j]? = vs[j]?) (h2 : ∀ j, j < R.n → (j < o ∨ o + vs.length ≤ j) → (R.cells x)[j]? = (R.cells (l.getD i R.zero))[j]?) : Row R B (w.setCells g (i * R.n + o) vs) (.slice (some ⟨g, 0, none⟩) n c) (l.set i x) := by
  obtain ⟨rfl, hB, _, cur, hg, hlc, hcm, hs, hc⟩ := h.cur
  have hin : (i + 1) * R.n ≤ c * R.n := Nat.mul_le_mul_right _ (by omega)
  rw [Nat.add_mul] at hin
  have key := Row.of_cells (R := R) (B := B) (l' := l.set i x) (c := c) hB (heap_sets vs w g (i * R.n + o) cur R.t hg) (by simpa using hlc) hcm (by rw [wrs_size]; exact hs) (by
    intro k hk j hj
    have hk' : k < l.length := by simpa using hk
    by_cases hki : k = i
    · subst hki
      rw [List.getD_eq_getElem?_getD, List.getElem?_set_self hk', Option.getD_some]
      by_cases hjo : j < o ∨ o + vs.length ≤ j
      · rw [wrs_out _ _ _ _ (by omega), hc k hk' j hj, h2 j hj hjo]
      · obtain ⟨t, rfl⟩ : ∃ t, j = o + t := ⟨j - o, by omega⟩
        rw [← Nat.add_assoc, wrs_in vs cur (k * R.n + o) t (by omega) (by omega), h1 t (by omega)]
    · have hmul : k * R.n + j < i * R.n ∨ i * R.n + R.n ≤ k * R.n + j := by
        rcases Nat.lt_or_gt_of_ne hki with h' | h'
        · have : (k + 1) * R.n ≤ i * R.n := Nat.mul_le_mul_right _ h'
          rw [Nat.add_mul] at this
          omega
        · have : (i + 1) * R.n ≤ k * R.n := Nat.mul_le_mul_right _ h'
          rw [Nat.add_mul] at this
          omega
      rw [wrs_out _ _ _ _ (by omega), hc k hk' j hj, List.getD_eq_getElem?_getD, List.getD_eq_getElem?_getD, List.getElem?_set_ne (Ne.symm hki)])
  simpa using key
/-- One is stored over another one. -/
theorem Row.put {g n c : Nat} (h : Row R B w (.slice (some ⟨g, 0, none⟩) n c) l) (i : Nat) (x : α) (hi : i < l.length) : Row R B (w.setCells g (i * R.n) (R.cells x)) (.slice (some ⟨g, 0, none⟩) n c) (l.set i x) := by
  have := h.sets i 0 (R.cells x) x hi (by rw [R.len]; omega) (fun j _ => by rw [Nat.zero_add]) (fun j hj hn => by rw [R.len] at hn; omega)
  simpa using this
/-- One of its cells is stored. -/
theorem Row.put1 {g n c : Nat} (h : Row R B w (.slice (some ⟨g, 0, none⟩) n c) l) (i o : Nat) (u : Value) (x : α) (hi : i < l.length) (ho : o < R.n) (hx : R.cells x = (R.cells (l.getD i R.zero)).set o u) : Row R B (w.setCell ⟨g, i * R.n + o, none⟩ u) (.slice (some ⟨g, 0, none⟩) n c) (l.set i x) := by
  have := h.sets i o [u] x hi (by simp; omega) (fun j hj => by
    obtain rfl : j = 0 := by simpa using hj
    rw [hx, Nat.add_zero, List.getElem?_set_self (by rw [R.len]; exact ho)]
    rfl) (fun j hj hn => by rw [hx, List.getElem?_set_ne (by simp at hn; omega)])
  exact this
theorem Row.frozen {g n c : Nat} (h : Row R B w (.slice (some ⟨g, 0, none⟩) n c) l) (j : Nat) : w.frozen? ⟨g, j, none⟩ = false := by
  obtain ⟨_, _, _, cur, hg, _⟩ := h.cur
  exact frozen_of_row w g j cur _ hg
end
end Go.Proofs.Ytdeaniigimmoaaa
/- Maps that the call itself makes: the entries as a list, whatever the keys and the elements; ranging over one. No word of the program. -/
namespace Go.Proofs.Ytdeaniigimmoaaa
open Go.RowKit Go.ChangeMaps Go.MapKept

theorem pw_mono {α : Type} {R S : α → α → Prop} (h : ∀ a b, R a b → S a b) : ∀ {l : List α}, l.Pairwise R → l.Pairwise S
  | [], _ => List.Pairwise.nil
  | a :: r, hp => by
    obtain ⟨h1, h2⟩ := List.pairwise_cons.1 hp
    exact List.pairwise_cons.2 ⟨fun b hb => h a b (h1 b hb), pw_mono h h2⟩
/-- How the keys and the elements of a map lie. -/
structure Mk (P : Program) (α β : Type) where
  t : TypeId
  k : TypeId
  e : TypeId
  key : α → Value
  val : β → Value
  ok : α → Prop
  law : Maps.Keyed P k
  ht : P.underlying t = some (.map k e)
  inj : ∀ {a b : α}, key a = key b → a = b
  reads : ∀ {a : α}, ok a → ∃ l, keyOf P k (key a) = some l

section
variable {α β : Type}
/-- What stands at a key. -/
def getL [DecidableEq α] (l : List (α × β)) (a : α) : Option β := (l.find? fun p => decide (p.1 = a)).map (·.2)
def putL [DecidableEq α] (l : List (α × β)) (a : α) (x : β) : List (α × β) := if l.any (fun p => decide (p.1 = a)) then l.map (fun p => if p.1 = a then (a, x) else p) else l ++ [(a, x)]
def delL [DecidableEq α] (l : List (α × β)) (a : α) : List (α × β) := l.filter fun p => !decide (p.1 = a)

theorem getL_none [DecidableEq α] {l : List (α × β)} {a : α} (h : ∀ p ∈ l, p.1 ≠ a) : getL l a = none := by
  unfold getL
  rw [List.find?_eq_none.2 (fun p hp => by simpa using h p hp)]
  rfl
theorem getL_at [DecidableEq α] : ∀ {l : List (α × β)} {j : Nat} {p : α × β}, l.Pairwise (fun p q => p.1 ≠ q.1) → l[j]? = some p → getL l p.1 = some p.2
  | [], j, p, _, h => by simp at h
  | q :: r, 0, p, _, h => by
    simp at h
    subst h
    simp [getL]
  | q :: r, j + 1, p, hd, h => by
    obtain ⟨h1, h2⟩ := List.pairwise_cons.1 hd
    simp at h
    have hne : q.1 ≠ p.1 := h1 p (List.mem_of_getElem? h)
    have ih := getL_at h2 h
    unfold getL at ih ⊢
    rw [List.find?_cons_of_neg (by simpa using hne)]
    exact ih
theorem putL_new [DecidableEq α] {l : List (α × β)} {a : α} (h : ∀ p ∈ l, p.1 ≠ a) (x : β) : putL l a x = l ++ [(a, x)] := by
  unfold putL
  rw [if_neg]
  simp only [List.any_eq_true, decide_eq_true_eq, not_exists, not_and]
  exact h
theorem map_at [DecidableEq α] : ∀ {l : List (α × β)} {j : Nat} {p : α × β} (x : β), l.Pairwise (fun p q => p.1 ≠ q.1) → l[j]? = some p → l.map (fun q => if q.1 = p.1 then (p.1, x) else q) = l.set j (p.1, x)
  | [], j, p, _, _, h => by simp at h
  | q :: r, 0, p, x, hd, h => by
    simp at h
    subst h
    obtain ⟨h1, h2⟩ := List.pairwise_cons.1 hd
    simp only [List.map_cons, if_true, List.set_cons_zero, List.cons.injEq, true_and]
    conv => rhs; rw [← List.map_id r]
    refine List.map_congr_left fun y hy => ?_
    rw [if_neg (h1 y hy).symm]
    rfl
  | q :: r, j + 1, p, x, hd, h => by
    obtain ⟨h1, h2⟩ := List.pairwise_cons.1 hd
    simp at h
    have hne : q.1 ≠ p.1 := h1 p (List.mem_of_getElem? h)
    simp only [List.map_cons, if_neg hne, List.set_cons_succ, map_at x h2 h]
theorem putL_at [DecidableEq α] {l : List (α × β)} {j : Nat} {p : α × β} (hd : l.Pairwise (fun p q => p.1 ≠ q.1)) (h : l[j]? = some p) (x : β) : putL l p.1 x = l.set j (p.1, x) := by
  unfold putL
  rw [if_pos (by simp only [List.any_eq_true, decide_eq_true_eq]; exact ⟨p, List.mem_of_getElem? h, rfl⟩)]
  exact map_at x hd h
theorem delL_none [DecidableEq α] {l : List (α × β)} {a : α} (h : ∀ p ∈ l, p.1 ≠ a) : delL l a = l := by
  unfold delL
  rw [List.filter_eq_self]
  intro p hp
  simpa using h p hp
theorem delL_at [DecidableEq α] {l : List (α × β)} {j : Nat} {p : α × β} (hd : l.Pairwise (fun p q => p.1 ≠ q.1)) (h : l[j]? = some p) : delL l p.1 = l.eraseIdx j := by
  unfold delL
  exact filter_eq_eraseIdx (fun q : α × β => decide (q.1 = p.1)) l j p h (by simp) (pw_mono (fun _ _ hne ⟨h1, h2⟩ => hne ((of_decide_eq_true h1).trans (of_decide_eq_true h2).symm)) hd)

variable {P : Program} {M : Mk P α β} {w w' : World} {b r : Nat} {l : List (α × β)}

/-- The entries of es are those of l, one by one. -/
def Ents (M : Mk P α β) (es : Array MapEntry) (l : List (α × β)) : Prop := es.toList.map (fun e => (e.key, e.val)) = l.map fun p => (M.key p.1, M.val p.2)
/-- Block b is a map of these entries. -/
def Mp (M : Mk P α β) (w : World) (b : Nat) (l : List (α × β)) : Prop :=
  ∃ es clock, w.heap[b]? = some (.map es clock) ∧ Stamped es clock ∧ Ents M es l ∧ ∀ p ∈ l, M.ok p.1

theorem Ents.at {es : Array MapEntry} (h : Ents M es l) (j : Nat) : (es.toList[j]?).map (fun e => (e.key, e.val)) = (l[j]?).map fun p => (M.key p.1, M.val p.2) := by
  rw [← List.getElem?_map, ← List.getElem?_map, h]
theorem Ents.mem {es : Array MapEntry} (h : Ents M es l) {x : MapEntry} (hx : x ∈ es.toList) : ∃ p ∈ l, x.key = M.key p.1 ∧ x.val = M.val p.2 := by
  have : (x.key, x.val) ∈ es.toList.map (fun e => (e.key, e.val)) := List.mem_map.2 ⟨x, hx, rfl⟩
  rw [h] at this
  obtain ⟨p, hp, e⟩ := List.mem_map.1 this
  exact ⟨p, hp, (congrArg Prod.fst e).symm, (congrArg Prod.snd e).symm⟩
theorem Ents.mem' {es : Array MapEntry} (h : Ents M es l) {p : α × β} (hp : p ∈ l) : ∃ x ∈ es.toList, x.key = M.key p.1 ∧ x.val = M.val p.2 := by
  have : (M.key p.1, M.val p.2) ∈ l.map fun p => (M.key p.1, M.val p.2) := List.mem_map.2 ⟨p, hp, rfl⟩
  rw [← h] at this
  obtain ⟨x, hx, e⟩ := List.mem_map.1 this
  exact ⟨x, hx, congrArg Prod.fst e, congrArg Prod.snd e⟩
theorem Ents.apart {es : Array MapEntry} {clock : Nat} (h : Ents M es l) (hs : Stamped es clock) : l.Pairwise fun p q => p.1 ≠ q.1 := by
  have h1 : (es.toList.map (·.key)).Nodup := hs.2.2
  have h2 : es.toList.map (·.key) = l.map fun p => M.key p.1 := by
    have := congrArg (List.map Prod.fst) h
    simpa [List.map_map, Function.comp_def] using this
  rw [h2, List.Nodup, List.pairwise_map] at h1
  exact pw_mono (fun _ _ hne e => hne (by rw [e])) h1
theorem Ents.len {es : Array MapEntry} (h : Ents M es l) : es.size = l.length := by
  have := congrArg List.length h
  simpa using this

theorem Mp.lt (h : Mp M w b l) : b < w.heap.size := by
  obtain ⟨es, clock, hb, _⟩ := h
  exact (Array.getElem?_eq_some_iff.1 hb).1
theorem Mp.same (h : Mp M w b l) (e : w'.heap[b]? = w.heap[b]?) : Mp M w' b l := by
  obtain ⟨es, clock, hb, r⟩ := h
  exact ⟨es, clock, e.trans hb, r⟩
theorem Mp.apart (h : Mp M w b l) : l.Pairwise fun p q => p.1 ≠ q.1 := by
  obtain ⟨es, clock, hb, hs, he, _⟩ := h
  exact he.apart hs
theorem Mp.made (M : Mk P α β) (w : World) : Mp M (w.alloc (.map #[] 0)) w.heap.size [] :=
  ⟨#[], 0, (MapKept.heap_alloc w _).1, stamped_empty 0, rfl, by simp⟩
theorem Mp.ne {c : Array Value} {t : TypeId} {fr : Nat × Nat} {g : Nat} (h : Mp M w b l) (hg : w.heap[g]? = some (.cells c t fr)) : b ≠ g := by
  obtain ⟨es, clock, hb, _⟩ := h
  intro e
  rw [e, hg] at hb
  cases hb

theorem find_ents {es : Array MapEntry} (he : Ents M es l) (hok : ∀ p ∈ l, M.ok p.1) {a : α} (ha : M.ok a) (w : World) :
    ((Instr.findKey M.k (M.key a) es.toList).run P w = .ok none w ∧ (∀ p ∈ l, p.1 ≠ a) ∧ ∀ x ∈ es.toList, x.key ≠ M.key a) ∨
    ∃ j e p, (Instr.findKey M.k (M.key a) es.toList).run P w = .ok (some (j, M.val p.2)) w ∧ es.toList[j]? = some e ∧ e.key = M.key a ∧ l[j]? = some p ∧ p.1 = a := by
  obtain ⟨lx, hlx⟩ := M.reads ha
  rcases M.law.find w hlx es.toList (fun e hm => by
    obtain ⟨p, hp, e1, _⟩ := he.mem hm
    rw [e1]
    exact M.reads (hok p hp)) with ⟨h1, h2⟩ | ⟨j, e, h1, h2, h3⟩
  · refine Or.inl ⟨h1, fun p hp e => ?_, h2⟩
    obtain ⟨x, hx, e1, _⟩ := he.mem' hp
    exact h2 x hx (by rw [e1, e])
  · have h4 := he.at j
    rw [h2] at h4
    cases hl : l[j]? with
    | none => rw [hl] at h4; simp at h4
    | some p =>
      rw [hl] at h4
      simp at h4
      have hpa : p.1 = a := M.inj (by rw [← h4.1, h3])
      exact Or.inr ⟨j, e, p, by rw [← h4.2]; exact h1, h2, h3, hl, hpa⟩

/-- 'v, ok := m[k]'. -/
theorem Mp.look [DecidableEq α] (h : Mp M w b l) {a : α} (ha : M.ok a) {z : Value} (hz : (zeroValue M.e).run P w = .ok z w) :
    (Instr.lookup M.t (.map (some b)) (M.key a) true).run P w = .ok (match getL l a with | some x => .tuple #[M.val x, .bool true] | none => .tuple #[z, .bool false]) w := by
  obtain ⟨es, clock, hb, hs, he, hok⟩ := h
  obtain ⟨lx, hlx⟩ := M.reads ha
  rcases find_ents he hok ha w with ⟨h1, h2, _⟩ | ⟨j, e, p, h1, h2, h3, h4, rfl⟩
  · rw [getL_none h2]
    simp [Instr.lookup, run_underlying M.ht, MapKept.run_getObj_map hb, M.law.check w _ hlx, h1, hz, Result.andThen]
  · rw [getL_at (he.apart hs) h4]
    simp [Instr.lookup, run_underlying M.ht, MapKept.run_getObj_map hb, M.law.check w _ hlx, h1, Result.andThen]

/-- 'm[k]', the zero value where nothing is. -/
theorem Mp.get [DecidableEq α] (h : Mp M w b l) {a : α} (ha : M.ok a) {z : Value} (hz : (zeroValue M.e).run P w = .ok z w) :
    (Instr.lookup M.t (.map (some b)) (M.key a) false).run P w = .ok (match getL l a with | some x => M.val x | none => z) w := by
  obtain ⟨es, clock, hb, hs, he, hok⟩ := h
  obtain ⟨lx, hlx⟩ := M.reads ha
  rcases find_ents he hok ha w with ⟨h1, h2, _⟩ | ⟨j, e, p, h1, h2, h3, h4, rfl⟩
  · rw [getL_none h2]
    simp [Instr.lookup, run_underlying M.ht, MapKept.run_getObj_map hb, M.law.check w _ hlx, h1, hz, Result.andThen]
  · rw [getL_at (he.apart hs) h4]
    simp [Instr.lookup, run_underlying M.ht, MapKept.run_getObj_map hb, M.law.check w _ hlx, h1, Result.andThen]
/-- Entries that look alike. -/
theorem Mp.turn {l' : List (α × β)} (h : Mp M w b l) (e : l.map (fun q => (M.key q.1, M.val q.2)) = l'.map fun q => (M.key q.1, M.val q.2)) : Mp M w b l' := by
  obtain ⟨es, clock, hb, hs, he, hok⟩ := h
  refine ⟨es, clock, hb, hs, Eq.trans he e, fun p hp => ?_⟩
  have : (M.key p.1, M.val p.2) ∈ l'.map fun q => (M.key q.1, M.val q.2) := List.mem_map.2 ⟨p, hp, rfl⟩
  rw [← e] at this
  obtain ⟨q, hq, e1⟩ := List.mem_map.1 this
  rw [← M.inj (congrArg Prod.fst e1)]
  exact hok q hq
theorem Mp.oks (h : Mp M w b l) : ∀ p ∈ l, M.ok p.1 := by
  obtain ⟨es, clock, hb, hs, he, hok⟩ := h
  exact hok
/-- The same entries in a new block. -/
theorem Mp.copy (h : Mp M w b l) : ∃ es clock, w.heap[b]? = some (.map es clock) ∧ Mp M (w.alloc (.map es clock)) w.heap.size l := by
  obtain ⟨es, clock, hb, hs, he, hok⟩ := h
  exact ⟨es, clock, hb, es, clock, (MapKept.heap_alloc w _).1, hs, he, hok⟩

/-- 'm[k] = v'. -/
theorem Mp.store [DecidableEq α] (h : Mp M w b l) {a : α} (ha : M.ok a) (x : β) :
    ∃ w', (Instr.mapUpdate M.t (.map (some b)) (M.key a) (M.val x)).run P w = .ok () w' ∧ Mp M w' b (putL l a x) ∧ w.mapTurned w' b := by
  obtain ⟨es, clock, hb, hs, he, hok⟩ := h
  obtain ⟨lx, hlx⟩ := M.reads ha
  rcases find_ents he hok ha w with ⟨h1, h2, h3⟩ | ⟨j, e, p, h1, h2, h3, h4, rfl⟩
  · refine ⟨setBlock w b (.map (es.push ⟨M.key a, M.val x, clock⟩) (clock + 1)), ?_, ⟨_, _, heap_setBlock_same hb _, stamped_push hs h3, ?_, ?_⟩, ⟨es, clock, _, _, hb, rfl⟩⟩
    · simp [Instr.mapUpdate, run_underlying M.ht, MapKept.run_getObj_map hb, M.law.check w false hlx, h1, MapKept.run_setObj_map _ hb, Result.andThen, setBlock]
    · rw [putL_new h2]
      unfold Ents at he ⊢
      simp [he]
    · rw [putL_new h2]
      intro p hp
      rcases List.mem_append.1 hp with hp | hp
      · exact hok p hp
      · simp at hp
        rw [hp]
        exact ha
  · have hj : es[j]? = some e := by simpa using h2
    have hkeyf : ∀ e', es[j]? = some e' → ({ e' with key := M.key p.1, val := M.val x } : MapEntry).key = e'.key := fun e' he' => by rw [hj] at he'; cases he'; exact h3.symm
    have hlist : (es.modify j (fun e' => { e' with key := M.key p.1, val := M.val x })).toList = es.toList.set j { e with key := M.key p.1, val := M.val x } := by rw [Array.toList_modify, modify_eq_set _ _ _ _ h2]
    refine ⟨setBlock w b (.map (es.modify j fun e' => { e' with key := M.key p.1, val := M.val x }) clock), ?_, ⟨_, _, heap_setBlock_same hb _, stamped_modify hs _ _ (fun _ _ => rfl) (fun e' _ he' => hkeyf e' he'), ?_, ?_⟩, ⟨es, clock, _, _, hb, rfl⟩⟩
    · simp [Instr.mapUpdate, run_underlying M.ht, MapKept.run_getObj_map hb, M.law.check w false hlx, h1, hj, h3, M.law.stays w hlx, MapKept.run_setObj_map _ hb, Result.andThen, setBlock]
    · rw [putL_at (he.apart hs) h4]
      unfold Ents at he ⊢
      rw [hlist, List.map_set, List.map_set, he]
    · rw [putL_at (he.apart hs) h4]
      intro q hq
      rcases List.mem_or_eq_of_mem_set hq with hq | hq
      · exact hok q hq
      · rw [hq]
        exact ha

theorem toList_erase {es : Array MapEntry} {j : Nat} (hj : j < es.toList.length) : (es.eraseIdxIfInBounds j).toList = es.toList.eraseIdx j := by
  unfold Array.eraseIdxIfInBounds
  rw [dif_pos (by simpa using hj)]
  simp

/-- 'delete(m, k)'. -/
theorem drop_ents [DecidableEq α] {es : Array MapEntry} {clock : Nat} (hb : w.heap[b]? = some (.map es clock)) (hs : Stamped es clock) (he : Ents M es l) (hok : ∀ p ∈ l, M.ok p.1) {a : α} (ha : M.ok a) (ty : TypeId) :
    ∃ es', (Builtin.delete_ #[M.t, M.k] ty #[.map (some b), M.key a]).run P w = .ok (.tuple #[]) (setBlock w b (.map es' clock)) ∧ Stamped es' clock ∧ Ents M es' (delL l a) ∧ es'.toList.Sublist es.toList := by
  obtain ⟨lx, hlx⟩ := M.reads ha
  rcases find_ents he hok ha w with ⟨h1, h2, h3⟩ | ⟨j, e, p, h1, h2, h3, h4, rfl⟩
  · refine ⟨es, ?_, hs, by rw [delL_none h2]; exact he, List.Sublist.refl _⟩
    simp [Builtin.delete_, run_underlying M.ht, MapKept.run_getObj_map hb, M.law.check w _ hlx, h1, MapKept.run_setObj_map _ hb, Result.andThen, setBlock]
  · have hsub := toList_erase (List.getElem?_eq_some_iff.1 h2).1
    refine ⟨es.eraseIdxIfInBounds j, ?_, stamped_erase hs j, ?_, by rw [hsub]; exact List.eraseIdx_sublist _ _⟩
    · simp [Builtin.delete_, run_underlying M.ht, MapKept.run_getObj_map hb, M.law.check w _ hlx, h1, MapKept.run_setObj_map _ hb, Result.andThen, setBlock]
    · rw [delL_at (he.apart hs) h4]
      unfold Ents at he ⊢
      rw [hsub, map_eraseIdx, map_eraseIdx, he]
theorem mem_delL [DecidableEq α] {a : α} {p : α × β} (h : p ∈ delL l a) : p ∈ l ∧ p.1 ≠ a := by
  have := List.mem_filter.1 h
  exact ⟨this.1, by simpa using this.2⟩
theorem Mp.drop [DecidableEq α] (h : Mp M w b l) {a : α} (ha : M.ok a) (ty : TypeId) :
    ∃ w', (Builtin.delete_ #[M.t, M.k] ty #[.map (some b), M.key a]).run P w = .ok (.tuple #[]) w' ∧ Mp M w' b (delL l a) ∧ w.mapTurned w' b := by
  obtain ⟨es, clock, hb, hs, he, hok⟩ := h
  obtain ⟨es', hrun, hs', he', _⟩ := drop_ents hb hs he hok ha ty
  exact ⟨_, hrun, ⟨es', clock, heap_setBlock_same hb _, hs', he', fun p hp => hok p (mem_delL hp).1⟩, ⟨es, clock, es', clock, hb, rfl⟩⟩
/-- 'len(m)'. -/
theorem Mp.len (h : Mp M w b l) (ty : TypeId) : (Builtin.len_ #[M.t] ty #[.map (some b)]).run P w = .ok (.int .i64 l.length) w := by
  obtain ⟨es, clock, hb, hs, he, hok⟩ := h
  have := he.len
  simp [Builtin.len_, run_underlying M.ht, MapKept.run_getObj_map hb, goInt, Result.andThen, this]

/-- A loop over the map in block b, by the iterator in block r: 'dn a': the entry at a has come. -/
def Rg (M : Mk P α β) (w : World) (b r : Nat) (l : List (α × β)) (dn : α → Bool) : Prop :=
  ∃ es clock since seen c0, w.heap[b]? = some (.map es clock) ∧ Stamped es clock ∧ Ents M es l ∧ (∀ p ∈ l, M.ok p.1) ∧ w.heap[r]? = some (.mapIter (some b) since seen c0) ∧ (∀ x ∈ es.toList, x.born < since) ∧
    (∀ x ∈ es.toList, ∀ a, x.key = M.key a → dn a = seen.contains x.born) ∧ since ≤ c0 ∧ since ≤ clock

variable {dn : α → Bool}
theorem Rg.mp (h : Rg M w b r l dn) : Mp M w b l := by
  obtain ⟨es, clock, _, _, _, hb, hs, he, hok, _⟩ := h
  exact ⟨es, clock, hb, hs, he, hok⟩
theorem Rg.lt (h : Rg M w b r l dn) : r < w.heap.size := by
  obtain ⟨es, clock, _, _, _, _, _, _, _, hr, _⟩ := h
  exact (Array.getElem?_eq_some_iff.1 hr).1
theorem Rg.ne (h : Rg M w b r l dn) : r ≠ b := by
  obtain ⟨es, clock, _, _, _, hb, _, _, _, hr, _⟩ := h
  intro e
  rw [e, hb] at hr
  cases hr
theorem Rg.same (h : Rg M w b r l dn) (e : w'.heap[b]? = w.heap[b]?) (e' : w'.heap[r]? = w.heap[r]?) : Rg M w' b r l dn := by
  obtain ⟨es, clock, since, seen, c0, hb, hs, he, hok, hr, rest⟩ := h
  exact ⟨es, clock, since, seen, c0, e.trans hb, hs, he, hok, e'.trans hr, rest⟩
theorem left_count {M : Mk P α β} {seen : Array Nat} : ∀ (es : List MapEntry) (l : List (α × β)), es.map (fun e => (e.key, e.val)) = l.map (fun p => (M.key p.1, M.val p.2)) → (∀ x ∈ es, ∀ a, x.key = M.key a → dn a = seen.contains x.born) →
    (es.filter fun e => !seen.contains e.born).length = (l.filter fun p => !dn p.1).length
  | [], [], _, _ => rfl
  | [], p :: l, h, _ => by simp at h
  | e :: es, [], h, _ => by simp at h
  | e :: es, p :: l, h, hd => by
    simp only [List.map_cons, List.cons.injEq, Prod.mk.injEq] at h
    have ih := left_count es l h.2 (fun x hx => hd x (by simp [hx]))
    have h1 := hd e (by simp) p.1 h.1.1
    simp only [List.filter_cons, h1]
    split
    · rw [List.length_cons, List.length_cons, ih]
    · exact ih
theorem Rg.left_eq (h : Rg M w b r l dn) : w.rangeLeft b r = (l.filter fun p => !dn p.1).length := by
  obtain ⟨es, clock, since, seen, c0, hb, hs, he, hok, hr, _, hd, _⟩ := h
  simp only [World.rangeLeft, hb, hr]
  unfold leftOf
  rw [← left_count es.toList l he hd, ← Array.toList_filter, Array.length_toList]
/-- 'range m'. -/
theorem Mp.range (h : Mp M w b l) :
    ∃ w', (Instr.range M.t (.map (some b))).run P w = .ok (.pointer (some ⟨w.heap.size, 0, none⟩)) w' ∧ Rg M w' b w.heap.size l (fun _ => false) ∧ w.grownBy w' none ∧ w'.heap.size = w.heap.size + 1 := by
  have hlt := h.lt
  obtain ⟨es, clock, hb, hs, he, hok⟩ := h
  exact ⟨_, run_range_map w M.t M.k M.e b es clock M.ht hb, ⟨es, clock, clock, #[], clock, ((MapKept.heap_alloc w _).2 b hlt).trans hb, hs, he, hok, (MapKept.heap_alloc w _).1, hs.1, fun x _ a _ => by simp, Nat.le_refl _, Nat.le_refl _⟩, World.grownBy_alloc w _ none, by simp⟩
/-- THE STEP. -/
theorem Rg.next [DecidableEq α] (h : Rg M w b r l dn) (ty : TypeId) :
    ((∀ p ∈ l, dn p.1 = true) ∧ (Instr.next (.pointer (some ⟨r, 0, none⟩)) false ty).run P w = .ok (.tuple #[.bool false]) w) ∨
    ∃ p w', p ∈ l ∧ dn p.1 = false ∧ (Instr.next (.pointer (some ⟨r, 0, none⟩)) false ty).run P w = .ok (.tuple #[.bool true, M.key p.1, M.val p.2]) w' ∧
      Rg M w' b r l (fun a => dn a || decide (a = p.1)) ∧ w.grownBy w' (some r) ∧ w'.heap.size = w.heap.size ∧ (Instr.entry (.pointer (some ⟨r, 0, none⟩))).run P w' = .ok (.tuple #[M.key p.1, M.val p.2]) w' := by
  have hne := h.ne
  obtain ⟨es, clock, since, seen, c0, hb, hs, he, hok, hr, hold, hd, hsc, hsk⟩ := h
  rcases run_next_at (P := P) w ty r b since c0 seen es clock hr hb hold hsc with ⟨h0, hrun⟩ | ⟨e, hmem, w1, hal, hrun⟩
  · refine Or.inl ⟨fun p hp => ?_, hrun⟩
    obtain ⟨x, hx, e1, _⟩ := he.mem' hp
    rw [hd x hx _ e1]
    exact all_seen es seen h0 x hx
  · obtain ⟨hem, hes⟩ := Go.mem_left hmem
    obtain ⟨p, hp, ek, ev⟩ := he.mem hem
    have hr1 : w1.heap[r]? = some (.mapIter (some b) since seen c0) := by rcases hal with rfl | rfl <;> exact hr
    have hb1 : w1.heap[b]? = some (.map es clock) := by rcases hal with rfl | rfl <;> exact hb
    have hset := heap_set (o' := .mapIter (some b) since (seen.push e.born) clock) hr1
    have hrun' := hrun
    rw [ek, ev] at hrun
    have hrb : (setBlock w1 r (.mapIter (some b) since (seen.push e.born) clock)).heap[b]? = some (.map es clock) := (hset.2 b (Ne.symm hne)).trans hb1
    have hgr : w.grownBy (setBlock w1 r (.mapIter (some b) since (seen.push e.born) clock)) (some r) := by
      rcases hal with rfl | rfl
      · exact ⟨rfl, rfl, rfl, by simp [setBlock], fun i _ hi => hset.2 i (fun e => hi (by rw [e]))⟩
      · exact ⟨rfl, rfl, rfl, by simp [setBlock], fun i _ hi => hset.2 i (fun e => hi (by rw [e]))⟩
    refine Or.inr ⟨p, _, hp, by rw [hd e hem _ ek]; exact hes, hrun, ⟨es, clock, since, seen.push e.born, clock, hrb, hs, he, hok, hset.1, hold, fun x hx a ea => ?_, hsk, hsk⟩, hgr, ?_, ?_⟩
    · show (dn a || decide (a = p.1)) = _
      rw [hd x hx a ea]
      by_cases hbe : x.born = e.born
      · obtain rfl := born_inj hs.2.1 hx hem hbe
        have : a = p.1 := M.inj (by rw [← ea, ek])
        simp [this]
      · have : ¬ a = p.1 := fun e1 => hbe (by
          have := entry_eq_of_key ((stamped_iff es clock).1 hs).2.2 hx hem (by rw [ea, ek, e1])
          rw [this])
        simp [this, hbe]
    · rcases hal with rfl | rfl <;> simp [setBlock]
    · have := run_entry_at (P := P) (setBlock w1 r (.mapIter (some b) since (seen.push e.born) clock)) r b since seen es clock e hset.1 hrb hem hs.2.1
      rw [ek, ev] at this
      exact this
/-- 'delete(m, k)' IN THE ROUND. -/
theorem Rg.drop [DecidableEq α] (h : Rg M w b r l dn) {a : α} (ha : M.ok a) (ty : TypeId) :
    ∃ w', (Builtin.delete_ #[M.t, M.k] ty #[.map (some b), M.key a]).run P w = .ok (.tuple #[]) w' ∧ Rg M w' b r (delL l a) dn ∧ w.mapTurned w' b := by
  have hne := h.ne
  obtain ⟨es, clock, since, seen, c0, hb, hs, he, hok, hr, hold, hd, hsc, hsk⟩ := h
  obtain ⟨es', hrun, hs', he', hsub⟩ := drop_ents hb hs he hok ha ty
  exact ⟨_, hrun, ⟨es', clock, since, seen, c0, heap_setBlock_same hb _, hs', he', fun p hp => hok p (mem_delL hp).1, (heap_setBlock_other hb _ hne).trans hr, fun x hx => hold x (hsub.subset hx), fun x hx => hd x (hsub.subset hx), hsc, hsk⟩, ⟨es, clock, es', clock, hb, rfl⟩⟩

/-! ### at the operations, for the walk -/
variable {ops : Array Oper} {rest : List Oper} {o : Oper} {a : Act} {Q : Exit → Act → World → Prop}
theorem wpList_range_M (w : World) (hg : o.guard = none) (m : Operand) (hop : o.op = Op.range M.t m) (b : Nat) (l : List (α × β)) (hm : a.eval m = .map (some b)) (h : Mp M w b l)
    (hK : ∀ w', Rg M w' b w.heap.size l (fun _ => false) → w.grownBy w' none → w'.heap.size = w.heap.size + 1 → wpList P ops Q rest (a.put o.dst (.pointer (some ⟨w.heap.size, 0, none⟩))) w') :
    wpList P ops Q (o :: rest) a w := by
  refine wpList_plain hg fun K' hK' => ?_
  obtain ⟨w', hrun, r1, r2, r3⟩ := h.range
  unfold Oper.wp
  simp [execOp, hop, hm, hrun, Result.andThen]
  exact hK' _ _ (hK w' r1 r2 r3)
theorem wpList_next_M [DecidableEq α] (w : World) (hg : o.guard = none) (it : Operand) (hop : o.op = Op.next it false) (b r : Nat) (l : List (α × β)) (dn : α → Bool) (hit : a.eval it = .pointer (some ⟨r, 0, none⟩)) (h : Rg M w b r l dn)
    (hDone : (∀ p ∈ l, dn p.1 = true) → wpList P ops Q rest (a.put o.dst (.tuple #[.bool false])) w)
    (hMore : ∀ (p : α × β) (w' : World), p ∈ l → dn p.1 = false → Rg M w' b r l (fun a => dn a || decide (a = p.1)) → w.grownBy w' (some r) → w'.heap.size = w.heap.size →
      (Instr.entry (.pointer (some ⟨r, 0, none⟩))).run P w' = .ok (.tuple #[M.key p.1, M.val p.2]) w' → wpList P ops Q rest (a.put o.dst (.tuple #[.bool true, M.key p.1, M.val p.2])) w') :
    wpList P ops Q (o :: rest) a w := by
  refine wpList_plain hg fun K' hK' => ?_
  unfold Oper.wp
  rcases h.next o.type with ⟨h0, hrun⟩ | ⟨p, w', hp, hd, hrun, hrg, hgr, hsz, hen⟩
  · simp [execOp, hop, hit, hrun, Result.andThen]
    exact hK' _ _ (hDone h0)
  · simp [execOp, hop, hit, hrun, Result.andThen]
    exact hK' _ _ (hMore p w' hp hd hrg hgr hsz hen)
theorem wpList_delete_R [DecidableEq α] (w : World) (hg : o.guard = none) (m x : Operand) (hop : o.op = Op.call { callee := Callee.builtin Builtin.delete, args := #[m, x], argTypes := #[M.t, M.k] }) (b r : Nat) (l : List (α × β)) (dn : α → Bool)
    (hm : a.eval m = .map (some b)) (h : Rg M w b r l dn) (c : α) (hc : M.ok c) (hx : a.eval x = M.key c)
    (hK : ∀ w', Rg M w' b r (delL l c) dn → w.mapTurned w' b → wpList P ops Q rest (a.put o.dst (.tuple #[])) w') :
    wpList P ops Q (o :: rest) a w := by
  refine wpList_plain hg fun K' hK' => ?_
  obtain ⟨w', hrun, r1, r2⟩ := h.drop hc o.type
  unfold Oper.wp
  simp [execOp, hop, resolve, invoke, builtin, hm, hx, hrun, Result.andThen]
  exact hK' _ _ (hK w' r1 r2)
theorem wpList_delete_M [DecidableEq α] (w : World) (hg : o.guard = none) (m x : Operand) (hop : o.op = Op.call { callee := Callee.builtin Builtin.delete, args := #[m, x], argTypes := #[M.t, M.k] }) (b : Nat) (l : List (α × β))
    (hm : a.eval m = .map (some b)) (h : Mp M w b l) (c : α) (hc : M.ok c) (hx : a.eval x = M.key c)
    (hK : ∀ w', Mp M w' b (delL l c) → w.mapTurned w' b → wpList P ops Q rest (a.put o.dst (.tuple #[])) w') :
    wpList P ops Q (o :: rest) a w := by
  refine wpList_plain hg fun K' hK' => ?_
  obtain ⟨w', hrun, r1, r2⟩ := h.drop hc o.type
  unfold Oper.wp
  simp [execOp, hop, resolve, invoke, builtin, hm, hx, hrun, Result.andThen]
  exact hK' _ _ (hK w' r1 r2)
end
end Go.Proofs.Ytdeaniigimmoaaa
/- What every text of a seat may lean on: answers, frames, structs that lie as variables of their own. -/
namespace Go.Proofs.Ytdeaniigimmoaaa
open Go.RowKit

theorem ret_bool {a b : Bool} (h : a = b) : Ending.returned (.bool a) = .returned (.bool b) := by rw [h]
theorem ret_int {k : IntKind} {a b : Int} (h : a = b) : Ending.returned (.int k a) = .returned (.int k b) := by rw [h]
theorem cell_alloc_old {w : World} {b : Nat} (h : b < w.heap.size) (o : Nat) (v : Obj) : (w.alloc v).cell? ⟨b, o, none⟩ = w.cell? ⟨b, o, none⟩ :=
  World.cell?_of_block (Below.heap_alloc w v b h)
theorem bcell {W w1 : World} (hb : Below W.heap.size W w1) : (∀ b o, b < W.heap.size → w1.cell? ⟨b, o, none⟩ = W.cell? ⟨b, o, none⟩) ∧ (∀ b o, b < W.heap.size → w1.frozen? ⟨b, o, none⟩ = W.frozen? ⟨b, o, none⟩) :=
  ⟨fun b o h => hb.cell (p := ⟨b, o, none⟩) h, fun b o h => hb.frozen (p := ⟨b, o, none⟩) h⟩
/-- The world behind a call that makes memory alone, all of it told from the first one. -/
theorem below_call {B : Nat} {a W w1 : World} (h : Below B a W) (hz : B ≤ W.heap.size) (hb : Below W.heap.size W w1) : Below B a w1 := h.trans (hb.mono hz)
theorem below_new {B : Nat} {a W w1 : World} {v : Obj} (h : Below B a W) (hz : B ≤ W.heap.size) (hb : Below (W.alloc v).heap.size (W.alloc v) w1) : Below B a w1 :=
  (h.alloc hz v).trans (hb.mono (by simp; omega))
theorem eq_err (n : Int) (w : World) : (binOp .eql 34 (.iface 37 (.int .i64 n)) (.iface 37 (.int .i64 n))).run Try.prog w = .ok (.bool true) w := by
  have := Lib.run_eql_iface_int (P := Try.prog) w (t := 34) (tx := 37) (k := .i64) n n Try.underlying34 (by kernel_rfl) Try.underlying37
  rw [beq_self_eq_true] at this
  exact this

/-- What holds below B behind a call that writes a row of the call's own. -/
theorem below_row {B : Nat} {a w w' : World} {s : Nat} (h : Below B a w) (hz : B ≤ w.heap.size) (hg : w.grownBy w' (some s)) (hs : B ≤ s) : Below B a w' :=
  h.grown hg hz fun k hk => by cases hk; exact hs

theorem below_call' {a W w1 : World} (h : Below a.heap.size a W) (hb : Below W.heap.size W w1) : Below a.heap.size a w1 := h.trans (hb.mono h.size)
theorem neq_err (n : Int) (w : World) : (binOp .neq 34 (.iface 37 (.int .i64 n)) (.iface 37 (.int .i64 n))).run Try.prog w = .ok (.bool false) w := by
  have := Lib.run_neq_iface_int (P := Try.prog) w (t := 34) (tx := 37) (k := .i64) n n Try.underlying34 (by kernel_rfl) Try.underlying37
  simpa using this
theorem frozen_alloc_old {w : World} {b : Nat} (h : b < w.heap.size) (o : Nat) (v : Obj) : (w.alloc v).frozen? ⟨b, o, none⟩ = w.frozen? ⟨b, o, none⟩ :=
  World.frozen?_of_block (Below.heap_alloc w v b h)
def Thaw (w : World) (b : Nat) : Prop := b < w.heap.size ∧ ∀ o, w.frozen? ⟨b, o, none⟩ = false
theorem Thaw.old {w : World} {b : Nat} (h : Thaw w b) (v : Obj) : Thaw (w.alloc v) b :=
  ⟨by simp; have := h.1; omega, fun o => by rw [frozen_alloc_old h.1]; exact h.2 o⟩
theorem Thaw.below {W w1 : World} {b : Nat} (h : Thaw W b) (hb : Below W.heap.size W w1) : Thaw w1 b :=
  ⟨by have := hb.size; have := h.1; omega, fun o => by rw [(bcell hb).2 b o h.1]; exact h.2 o⟩
theorem Thaw.rules {w : World} {b : Nat} (h : Thaw w b) : (∀ o v, (w.alloc v).frozen? ⟨b, o, none⟩ = w.frozen? ⟨b, o, none⟩) ∧ ∀ o, w.frozen? ⟨b, o, none⟩ = false :=
  ⟨fun o v => frozen_alloc_old h.1 o v, h.2⟩
theorem ne_of_tag {w : World} {a b : Nat} {c c' : Array Value} {t t' : TypeId} {fr fr' : Nat × Nat} (h : w.heap[a]? = some (.cells c t fr)) (h' : w.heap[b]? = some (.cells c' t' fr')) (ht : t ≠ t') : a ≠ b := by
  intro e
  subst e
  rw [h] at h'
  simp at h'
  exact ht h'.2.1
/-- A struct of cells cs that lies at block b. -/
def Laid (w : World) (b : Nat) (t : TypeId) (cs : Array Value) : Prop := w.heap[b]? = some (.cells cs t (0, 0))
theorem Laid.lt {w : World} {b : Nat} {t : TypeId} {cs : Array Value} (h : Laid w b t cs) : b < w.heap.size := (Array.getElem?_eq_some_iff.1 h).1
theorem Laid.below {w w' : World} {b : Nat} {t : TypeId} {cs : Array Value} (h : Laid w b t cs) (hb : Below w.heap.size w w') : Laid w' b t cs := (hb.block b h.lt).trans h
theorem Laid.kept {w w' : World} {b : Nat} {t : TypeId} {cs : Array Value} {row : Option Nat} (h : Laid w b t cs) (hg : w.grownBy w' row) (hr : some b ≠ row) : Laid w' b t cs := (hg.block b h.lt hr).trans h
theorem Laid.cell {w : World} {b : Nat} {t : TypeId} {cs : Array Value} (h : Laid w b t cs) (j : Nat) : w.cell? ⟨b, j, none⟩ = cs[j]? := cell_of_row w b j cs t (0, 0) h
theorem Laid.new (w : World) (t : TypeId) (cs : Array Value) : Laid (w.alloc (.cells cs t)) w.heap.size t cs := heap_alloc_new w _
end Go.Proofs.Ytdeaniigimmoaaa
/- Things that lie in blocks of their own, side by side: what a call on one of them leaves of the others. No word of the program. -/
namespace Go.Proofs.Ytdeaniigimmoaaa
open Go.RowKit

/-- A thing: which blocks it has, and what lies there. -/
structure Th where
  In : (Nat → Prop) → World → Prop
  lt : ∀ {F : Nat → Prop} {w : World}, In F w → ∀ c, F c → c < w.heap.size
  keeps : ∀ {F s : Nat → Prop} {w w' : World}, In F w → Keeps w w' s → (∀ c, F c → ¬ s c) → In F w'

def Th.and (X Y : Th) : Th where
  In F w := ∃ A B, (∀ c, F c ↔ A c ∨ B c) ∧ (∀ c, A c → B c → False) ∧ X.In A w ∧ Y.In B w
  lt := by
    rintro F w ⟨A, B, h1, _, h3, h4⟩ c hc
    rcases (h1 c).1 hc with h | h
    · exact X.lt h3 c h
    · exact Y.lt h4 c h
  keeps := by
    rintro F s w w' ⟨A, B, h1, h2, h3, h4⟩ hk hs
    exact ⟨A, B, h1, h2, X.keeps h3 hk fun c hc => hs c ((h1 c).2 (Or.inl hc)), Y.keeps h4 hk fun c hc => hs c ((h1 c).2 (Or.inr hc))⟩
def Th.emp : Th where
  In F _ := ∀ c, ¬ F c
  lt h c hc := absurd hc (h c)
  keeps h _ _ := h
def Th.ex {ι : Type} (X : ι → Th) : Th where
  In F w := ∃ i, (X i).In F w
  lt := by rintro F w ⟨i, h⟩; exact (X i).lt h
  keeps := by rintro F s w w' ⟨i, h⟩ hk hs; exact ⟨i, (X i).keeps h hk hs⟩
def Th.when (p : Prop) (X : Th) : Th where
  In F w := p ∧ X.In F w
  lt h := X.lt h.2
  keeps h hk hs := ⟨h.1, X.keeps h.2 hk hs⟩
def Th.all : List Th → Th
  | [] => .emp
  | X :: L => X.and (all L)
def Th.le (X Y : Th) : Prop := ∀ {F : Nat → Prop} {w : World}, X.In F w → Y.In F w

theorem Th.le.refl (X : Th) : X.le X := fun h => h
theorem Th.le.trans {X Y Z : Th} (h : X.le Y) (k : Y.le Z) : X.le Z := fun x => k (h x)
theorem and_mono {X X' Y Y' : Th} (h : X.le X') (k : Y.le Y') : (X.and Y).le (X'.and Y') := by
  rintro F w ⟨A, B, h1, h2, h3, h4⟩
  exact ⟨A, B, h1, h2, h h3, k h4⟩
theorem and_comm (X Y : Th) : (X.and Y).le (Y.and X) := by
  rintro F w ⟨A, B, h1, h2, h3, h4⟩
  exact ⟨B, A, fun c => (h1 c).trans Or.comm, fun c hb ha => h2 c ha hb, h4, h3⟩
theorem and_assoc (X Y Z : Th) : ((X.and Y).and Z).le (X.and (Y.and Z)) := by
  rintro F w ⟨A, B, h1, h2, ⟨C, D, g1, g2, g3, g4⟩, h4⟩
  refine ⟨C, fun c => D c ∨ B c, fun c => ?_, fun c hc hd => ?_, g3, D, B, fun _ => Iff.rfl, fun c hd hb => h2 c ((g1 c).2 (Or.inr hd)) hb, g4, h4⟩
  · rw [h1 c, g1 c, or_assoc]
  · rcases hd with hd | hd
    · exact g2 c hc hd
    · exact h2 c ((g1 c).2 (Or.inl hc)) hd
theorem and_left (X Y Z : Th) : (X.and (Y.and Z)).le (Y.and (X.and Z)) := by
  rintro F w ⟨A, B, h1, h2, h3, C, D, g1, g2, g3, g4⟩
  refine ⟨C, fun c => A c ∨ D c, fun c => ?_, fun c hc hd => ?_, g3, A, D, fun _ => Iff.rfl, fun c ha hd => h2 c ha ((g1 c).2 (Or.inr hd)), h3, g4⟩
  · rw [h1 c, g1 c]
    constructor
    · rintro (h | h | h)
      · exact Or.inr (Or.inl h)
      · exact Or.inl h
      · exact Or.inr (Or.inr h)
    · rintro (h | h | h)
      · exact Or.inr (Or.inl h)
      · exact Or.inl h
      · exact Or.inr (Or.inr h)
  · rcases hd with hd | hd
    · exact h2 c hd ((g1 c).2 (Or.inl hc))
    · exact g2 c hc hd
theorem and_assoc' (X Y Z : Th) : (X.and (Y.and Z)).le ((X.and Y).and Z) := fun h => and_comm _ _ (and_assoc Z X Y (and_comm _ _ (and_assoc Y Z X (and_comm _ _ h))))
theorem all_pick (X : Th) (B : List Th) : ∀ A : List Th, (Th.all (A ++ X :: B)).le (X.and (Th.all (A ++ B)))
  | [] => Th.le.refl _
  | Y :: A => fun h => and_left _ _ _ (and_mono (Th.le.refl Y) (all_pick X B A) h)
theorem all_put (X : Th) (B : List Th) : ∀ A : List Th, (X.and (Th.all (A ++ B))).le (Th.all (A ++ X :: B))
  | [] => Th.le.refl _
  | Y :: A => fun h => and_mono (Th.le.refl Y) (all_put X B A) (and_left _ _ _ h)
theorem all_snoc (X : Th) (A : List Th) : (X.and (Th.all A)).le (Th.all (A ++ [X])) := fun h => all_put X [] A (by rw [List.append_nil]; exact h)
theorem and_emp (X : Th) : (X.and .emp).le X := by
  rintro F w ⟨A, B, h1, h2, h3, h4⟩
  have e : A = F := by
    funext c
    refine propext ⟨fun h => (h1 c).2 (Or.inl h), fun h => ?_⟩
    rcases (h1 c).1 h with k | k
    · exact k
    · exact absurd k (h4 c)
  rw [← e]
  exact h3
theorem emp_and (X : Th) : X.le (X.and .emp) := fun {F w} h => ⟨F, fun _ => False, fun c => by simp, fun _ _ h => h, h, fun _ h => h⟩

/-- Since w, in which F lay, it has become X: all beside F stays. -/
def Bec (F : Nat → Prop) (w : World) (X : Th) (w' : World) : Prop := ∃ F', (∀ c, F' c → F c ∨ w.heap.size ≤ c) ∧ X.In F' w' ∧ Keeps w w' F
section
variable {F : Nat → Prop} {w w' w'' : World} {X Y Z : Th}
theorem Bec.refl (h : X.In F w) : Bec F w X w := ⟨F, fun _ h => Or.inl h, h, Keeps.refl _ _⟩
theorem Bec.imp (h : Bec F w X w') (k : X.le Y) : Bec F w Y w' := by
  obtain ⟨F', h1, h2, h3⟩ := h
  exact ⟨F', h1, k h2, h3⟩
theorem Bec.keep (h : Bec F w X w') : Keeps w w' F := by
  obtain ⟨F', h1, h2, h3⟩ := h
  exact h3
theorem Bec.next (h : Bec F w X w') : ∃ A, X.In A w' ∧ ∀ {X' : Th} {w'' : World}, Bec A w' X' w'' → Bec F w X' w'' := by
  obtain ⟨A, h1, h2, h3⟩ := h
  refine ⟨A, h2, fun {X' w''} k => ?_⟩
  obtain ⟨B, k1, k2, k3⟩ := k
  have hz := h3.size
  refine ⟨B, fun c hc => ?_, k2, h3.trans k3 fun c hb hc => ?_⟩
  · rcases k1 c hc with k | k
    · exact h1 c k
    · exact Or.inr (by omega)
  · rcases h1 c hc with k | k
    · exact k
    · omega
theorem Bec.below (h : Bec F w X w') (hb : Below w'.heap.size w' w'') : Bec F w X w'' := by
  obtain ⟨A, h1, h2⟩ := h.next
  exact h2 ⟨A, fun _ h => Or.inl h, X.keeps h1 (Keeps.of_below hb (fun _ => False)) fun _ _ e => e, Keeps.of_below hb _⟩
theorem In.below (h : X.In F w) (hb : Below w.heap.size w w') : Bec F w X w' := (Bec.refl h).below hb
theorem In.open (h : (X.and Y).In F w) : ∃ A, X.In A w ∧ ∀ {X' : Th} {w' : World}, Bec A w X' w' → Bec F w (X'.and Y) w' := by
  obtain ⟨A, B, h1, h2, h3, h4⟩ := h
  refine ⟨A, h3, fun {X' w'} k => ?_⟩
  obtain ⟨C, k1, k2, k3⟩ := k
  refine ⟨fun c => C c ∨ B c, fun c hc => ?_, ⟨C, B, fun _ => Iff.rfl, fun c hc hb => ?_, k2, Y.keeps h4 k3 fun c hb ha => h2 c ha hb⟩, k3.mono fun c _ ha => (h1 c).2 (Or.inl ha)⟩
  · rcases hc with hc | hc
    · exact (k1 c hc).imp (fun h => (h1 c).2 (Or.inl h)) id
    · exact Or.inl ((h1 c).2 (Or.inr hc))
  · rcases k1 c hc with h | h
    · exact h2 c h hb
    · have := Y.lt h4 c hb
      omega
theorem Bec.open (h : Bec F w (X.and Y) w') : ∃ A, X.In A w' ∧ ∀ {X' : Th} {w'' : World}, Bec A w' X' w'' → Bec F w (X'.and Y) w'' := by
  obtain ⟨A, h1, h2⟩ := h.next
  obtain ⟨B, h3, h4⟩ := In.open h1
  exact ⟨B, h3, fun k => h2 (h4 k)⟩
/-- A new thing beside. -/
theorem Bec.new (h : Bec F w X w') (hz : Bec (fun _ => False) w' Z w'') : Bec F w (Z.and X) w'' := by
  obtain ⟨A, h1, h2⟩ := h.next
  obtain ⟨B, k1, k2, k3⟩ := hz
  refine h2 ⟨fun c => B c ∨ A c, fun c hc => ?_, ⟨B, A, fun _ => Iff.rfl, fun c hb ha => ?_, k2, X.keeps h1 k3 fun _ _ e => e⟩, k3.mono fun _ _ e => e.elim⟩
  · rcases hc with hc | hc
    · exact Or.inr ((k1 c hc).resolve_left fun e => e)
    · exact Or.inl hc
  · have := X.lt h1 c ha
    have := (k1 c hb).resolve_left fun e => e
    omega
theorem Bec.frame (h : Bec (fun _ => False) w X w') : Below w.heap.size w w' := h.keep.below (Nat.le_refl _) fun _ _ e => e.elim
theorem Bec.more {G : Nat → Prop} (h : Bec F w X w') (hg : ∀ c, F c → G c) : Bec G w X w' := by
  obtain ⟨F', h1, h2, h3⟩ := h
  exact ⟨F', fun c hc => (h1 c hc).imp (hg c) id, h2, h3.mono fun c _ => hg c⟩
/-- What is dropped. -/
theorem Bec.left (h : Bec F w (X.and Y) w') : Bec F w X w' := by
  obtain ⟨F', h1, ⟨A, B, k1, k2, k3, k4⟩, h3⟩ := h
  exact ⟨A, fun c hc => h1 c ((k1 c).2 (Or.inl hc)), k3, h3⟩
theorem Bec.right (h : Bec F w (X.and Y) w') : Bec F w Y w' := (h.imp (and_comm X Y)).left
theorem bec_false {X : Th} (h : X.In F w') (hF : ∀ c, F c → w.heap.size ≤ c) (hb : Below w.heap.size w w') : Bec (fun _ => False) w X w' := ⟨F, fun c hc => Or.inr (hF c hc), h, Keeps.of_below hb _⟩
theorem emp_new (w : World) : Bec (fun _ => False) w .emp w := Bec.refl fun _ h => h
/-- Behind what is new: what was there stays. -/
theorem Bec.base (hb : Below w.heap.size w w') (h : Bec (fun _ => False) w' X w'') : Bec (fun _ => False) w X w'' := by
  obtain ⟨F', h1, h2, h3⟩ := h
  have hz := hb.size
  exact ⟨F', fun c hc => Or.inr (by have := (h1 c hc).resolve_left fun e => e; omega), h2, (Keeps.of_below hb _).trans h3 fun _ _ e => e⟩
end

/-- A block of cells. -/
def Th.box (b : Nat) (t : TypeId) (cs : Array Value) : Th where
  In F w := (∀ c, F c ↔ c = b) ∧ Laid w b t cs
  lt h c hc := by rw [(h.1 c).1 hc]; exact h.2.lt
  keeps h hk hs := ⟨h.1, (hk.block _ h.2.lt (hs _ ((h.1 _).2 rfl))).trans h.2⟩
def Th.row {α : Type} (R : Rec α) (v : Value) (l : List α) : Th where
  In F w := (∀ c, F c ↔ v.ownBlock = some c) ∧ Row R 0 w v l
  lt h c hc := (h.2.lt c ((h.1 c).1 hc)).2
  keeps h hk hs := ⟨h.1, hk.row h.2 fun g hg => hs g ((h.1 g).2 hg)⟩
def Th.mp {P : Program} {α β : Type} (M : Mk P α β) (b : Nat) (l : List (α × β)) : Th where
  In F w := (∀ c, F c ↔ c = b) ∧ Mp M w b l
  lt h c hc := by rw [(h.1 c).1 hc]; exact h.2.lt
  keeps h hk hs := ⟨h.1, h.2.same (hk.block _ h.2.lt (hs _ ((h.1 _).2 rfl)))⟩
section
variable {F : Nat → Prop} {w w' : World}
theorem box_put {b : Nat} {t : TypeId} {cs : Array Value} (h : (Th.box b t cs).In F w) (o : Nat) (v : Value) : Bec F w (.box b t (cs.setIfInBounds o v)) (w.setCell ⟨b, o, none⟩ v) :=
  ⟨F, fun _ h => Or.inl h, ⟨h.1, heap_setCell_same w b o _ _ v h.2⟩, (Keeps.set w b o v).mono fun c _ e => (h.1 c).2 e⟩
theorem box_new (w : World) (t : TypeId) (cs : Array Value) : Bec (fun _ => False) w (.box w.heap.size t cs) (w.alloc (.cells cs t)) :=
  bec_false (F := fun c => c = w.heap.size) ⟨fun _ => Iff.rfl, Laid.new _ _ _⟩ (fun c hc => by omega) ((Below.refl _ _).alloc (Nat.le_refl _) _)
theorem row_in {α : Type} {R : Rec α} {B : Nat} {v : Value} {l : List α} (h : Row R B w v l) : (Th.row R v l).In (fun c => v.ownBlock = some c) w := ⟨fun _ => Iff.rfl, h.lower (Nat.zero_le _)⟩
theorem row_new {α : Type} {R : Rec α} {v : Value} {l : List α} (h : Row R w.heap.size w' v l) (hb : Below w.heap.size w w') : Bec (fun _ => False) w (.row R v l) w' :=
  bec_false (row_in h) (fun c hc => (h.lt c hc).1) hb
theorem mp_new {P : Program} {α β : Type} {M : Mk P α β} {l : List (α × β)} {b : Nat} (h : Mp M w' b l) (hbn : w.heap.size ≤ b) (hb : Below w.heap.size w w') : Bec (fun _ => False) w (.mp M b l) w' :=
  bec_false (F := fun c => c = b) ⟨fun _ => Iff.rfl, h⟩ (fun c hc => by omega) hb
theorem mp_turn {P : Program} {α β : Type} {M : Mk P α β} {l l' : List (α × β)} {b : Nat} (h : (Th.mp M b l).In F w) (h' : Mp M w' b l') (hk : w.mapTurned w' b) : Bec F w (.mp M b l') w' :=
  ⟨F, fun _ h => Or.inl h, ⟨h.1, h'⟩, (Keeps.of_grown hk.grown).mono fun c _ e => (h.1 c).2 (by simpa using e.symm)⟩
end
end Go.Proofs.Ytdeaniigimmoaaa
/- Maps as lists: what stands where, behind puts and deletes. No word of the program. -/
namespace Go.Proofs.Ytdeaniigimmoaaa
section
variable {α β : Type} [DecidableEq α]
theorem getL_mem {l : List (α × β)} {a : α} {x : β} (h : getL l a = some x) : (a, x) ∈ l := by
  unfold getL at h
  obtain ⟨p, hp, rfl⟩ := Option.map_eq_some_iff.1 h
  have h1 := List.find?_some hp
  simp at h1
  rw [← h1]
  exact List.mem_of_find?_eq_some hp
theorem getL_none' {l : List (α × β)} {a : α} (h : getL l a = none) : ∀ p ∈ l, p.1 ≠ a := by
  unfold getL at h
  rw [Option.map_eq_none_iff, List.find?_eq_none] at h
  intro p hp e
  exact h p hp (by simp [e])
theorem getL_cons (p : α × β) (l : List (α × β)) (a : α) : getL (p :: l) a = if p.1 = a then some p.2 else getL l a := by
  unfold getL
  rw [List.find?_cons]
  by_cases e : p.1 = a <;> simp [e]
theorem getL_app (l m : List (α × β)) (a : α) : getL (l ++ m) a = (getL l a).or (getL m a) := by
  unfold getL
  rw [List.find?_append]
  cases List.find? (fun p => decide (p.1 = a)) l <;> simp
theorem getL_put : ∀ (l : List (α × β)) (a : α) (x : β) (b : α), getL (putL l a x) b = if b = a then some x else getL l b := by
  intro l a x b
  unfold putL
  split
  · next h =>
    have key : ∀ l : List (α × β), getL (l.map fun p => if p.1 = a then (a, x) else p) b = if b = a then (if l.any (fun p => decide (p.1 = a)) = true then some x else none) else getL l b := by
      intro l
      induction l with
      | nil => simp [getL]
      | cons p r ih =>
        rw [List.map_cons, getL_cons, ih, getL_cons]
        by_cases e1 : p.1 = a
        · by_cases e2 : b = a
          · simp [e1, e2]
          · simp [e1, e2, Ne.symm e2]
        · by_cases e2 : b = a
          · simp only [e1, e2, if_true, if_false, List.any_cons, decide_false, Bool.false_or]
          · simp [e1, e2]
    rw [key]
    simp [h]
  · next h =>
    rw [getL_app, getL_cons]
    have hn : getL l a = none := getL_none fun p hp e => h (List.any_eq_true.2 ⟨p, hp, by simp [e]⟩)
    by_cases e : b = a
    · rw [e, hn]; simp
    · rw [if_neg (Ne.symm e), if_neg e]
      simp [getL]
theorem getL_del (l : List (α × β)) (a b : α) : getL (delL l a) b = if b = a then none else getL l b := by
  induction l with
  | nil => simp [delL, getL]
  | cons p r ih =>
    unfold delL at ih ⊢
    rw [List.filter_cons]
    by_cases e1 : p.1 = a
    · rw [if_neg (by simp [e1]), ih, getL_cons, e1]
      by_cases e2 : b = a
      · rw [if_pos e2, if_pos e2]
      · rw [if_neg e2, if_neg e2, if_neg (Ne.symm e2)]
    · rw [if_pos (by simp [e1]), getL_cons, ih, getL_cons]
      by_cases e2 : b = a
      · rw [if_pos e2, if_pos e2, if_neg (by rw [e2]; exact e1)]
      · rw [if_neg e2, if_neg e2]
theorem mid_ne {α' β' : Type} {l1 l2 : List (α' × β')} {a : α'} {x : β'} (hd : (l1 ++ (a, x) :: l2).Pairwise fun p q => p.1 ≠ q.1) : (∀ p ∈ l1, p.1 ≠ a) ∧ ∀ p ∈ l2, p.1 ≠ a := by
  obtain ⟨h1, h2, h3⟩ := List.pairwise_append.1 hd
  obtain ⟨h4, h5⟩ := List.pairwise_cons.1 h2
  exact ⟨fun p hp => h3 p hp (a, x) (by simp), fun p hp => (h4 p hp).symm⟩
theorem putL_mid {l1 l2 : List (α × β)} {a : α} {x y : β} (hd : (l1 ++ (a, x) :: l2).Pairwise fun p q => p.1 ≠ q.1) : putL (l1 ++ (a, x) :: l2) a y = l1 ++ (a, y) :: l2 := by
  obtain ⟨h1, h2⟩ := mid_ne hd
  unfold putL
  rw [if_pos (by simp)]
  have e : ∀ l : List (α × β), (∀ p ∈ l, p.1 ≠ a) → l.map (fun p => if p.1 = a then (a, y) else p) = l := fun l h => by
    conv => rhs; rw [← List.map_id l]
    exact List.map_congr_left fun p hp => by rw [if_neg (h p hp)]; rfl
  rw [List.map_append, List.map_cons, e l1 h1, e l2 h2, if_pos rfl]
theorem delL_mid {l1 l2 : List (α × β)} {a : α} {x : β} (hd : (l1 ++ (a, x) :: l2).Pairwise fun p q => p.1 ≠ q.1) : delL (l1 ++ (a, x) :: l2) a = l1 ++ l2 := by
  obtain ⟨h1, h2⟩ := mid_ne hd
  unfold delL
  have e : ∀ l : List (α × β), (∀ p ∈ l, p.1 ≠ a) → l.filter (fun p => !decide (p.1 = a)) = l := fun l h => List.filter_eq_self.2 fun p hp => by simpa using h p hp
  rw [List.filter_append, List.filter_cons, e l1 h1, e l2 h2, if_neg (by simp)]
end
/-- No more unlike numbers than there are. -/
theorem few_keys : ∀ (n : Nat) (l : List Int), l.Nodup → (∀ k ∈ l, 1 ≤ k ∧ k ≤ (n : Int)) → l.length ≤ n
  | 0, l, _, h => by
    cases l with
    | nil => exact Nat.le_refl _
    | cons a r => have := h a (by simp); omega
  | n + 1, l, hd, h => by
    by_cases hm : ((n : Int) + 1) ∈ l
    · have h1 := few_keys n (l.erase ((n : Int) + 1)) (hd.erase _) fun k hk => by
        have h2 := h k (List.mem_of_mem_erase hk)
        have h3 : k ≠ (n : Int) + 1 := fun e => by
          rw [e] at hk
          exact (List.Nodup.not_mem_erase hd) hk
        omega
      rw [List.length_erase_of_mem hm] at h1
      omega
    · have h1 := few_keys n l hd fun k hk => by
        have h2 := h k hk
        have h3 : k ≠ (n : Int) + 1 := fun e => hm (e ▸ hk)
        omega
      omega
end Go.Proofs.Ytdeaniigimmoaaa
/- Maps whose elements are things of their own. No word of the program. -/
namespace Go.Proofs.Ytdeaniigimmoaaa
open Go.RowKit

theorem all_perm {A B : List Th} (h : A.Perm B) : (Th.all A).le (Th.all B) := by
  induction h with
  | nil => exact Th.le.refl _
  | cons x _ ih => exact and_mono (Th.le.refl _) ih
  | swap x y l => exact and_left _ _ _
  | trans _ _ h1 h2 => exact Th.le.trans h1 h2
section
variable {α β : Type} [DecidableEq α]
theorem putL_perm {l : List (α × β)} (hd : l.Pairwise fun p q => p.1 ≠ q.1) (n : α) (x : β) : (putL l n x).Perm ((n, x) :: delL l n) := by
  cases hg : getL l n with
  | none =>
    rw [putL_new (getL_none' hg), delL_none (getL_none' hg)]
    exact List.perm_append_singleton _ _
  | some y =>
    obtain ⟨l1, l2, rfl⟩ := List.append_of_mem (getL_mem hg)
    rw [putL_mid hd, delL_mid hd]
    exact List.perm_middle
theorem get_perm {l : List (α × β)} (hd : l.Pairwise fun p q => p.1 ≠ q.1) {n : α} {x : β} (hg : getL l n = some x) : l.Perm ((n, x) :: delL l n) := by
  obtain ⟨l1, l2, rfl⟩ := List.append_of_mem (getL_mem hg)
  rw [delL_mid hd]
  exact List.perm_middle
theorem getL_of_mem {l : List (α × β)} (hd : l.Pairwise fun p q => p.1 ≠ q.1) {n : α} {x : β} (h : (n, x) ∈ l) : getL l n = some x := by
  obtain ⟨j, hj⟩ := List.mem_iff_getElem?.1 h
  exact getL_at hd hj
end
/-- A map, and the things that its elements are. -/
def MX {P : Program} {α β : Type} (M : Mk P α β) (T : β → Th) (b : Nat) (l : List (α × β)) : Th := (Th.mp M b l).and (Th.all (l.map fun x => T x.2))
/-- .. all but that at n. -/
def MXh {P : Program} {α β : Type} [DecidableEq α] (M : Mk P α β) (T : β → Th) (b : Nat) (l : List (α × β)) (n : α) : Th := (Th.mp M b l).and (Th.all ((delL l n).map fun x => T x.2))
theorem MX.mp {P : Program} {α β : Type} {M : Mk P α β} {T : β → Th} {F : Nat → Prop} {w : World} {b : Nat} {l : List (α × β)} (h : (MX M T b l).In F w) : Mp M w b l := by
  obtain ⟨_, _, _, _, h1, _⟩ := h
  exact h1.2
section
variable {P : Program} {α β : Type} [DecidableEq α] {M : Mk P α β} {T : β → Th} {F : Nat → Prop} {w w' : World} {b : Nat} {l : List (α × β)} {n : α} {x y : β}
theorem MXh.mp (h : (MXh M T b l n).In F w) : Mp M w b l := by
  obtain ⟨_, _, _, _, h1, _⟩ := h
  exact h1.2
theorem mx_pick (h : (MX M T b l).In F w) (hg : getL l n = some x) : ((T x).and (MXh M T b l n)).In F w := by
  have hp := (get_perm (MX.mp h).apart hg).map fun x => T x.2
  exact and_left _ _ _ (and_mono (Th.le.refl _) (all_perm hp) h)
theorem mx_hole (h : (MX M T b l).In F w) : Bec F w (MXh M T b l n) w := by
  cases hg : getL l n with
  | none =>
    unfold MXh
    rw [delL_none (getL_none' hg)]
    exact Bec.refl h
  | some x => exact (Bec.refl (mx_pick h hg)).right
theorem mx_back (h : ((T y).and (MXh M T b l n)).In F w) (hg : getL l n = some x) (hv : M.val y = M.val x) : (MX M T b (putL l n y)).In F w := by
  have hd : l.Pairwise fun p q => p.1 ≠ q.1 := by
    obtain ⟨_, _, _, _, _, h2⟩ := h
    exact (MXh.mp h2).apart
  have hp := ((putL_perm hd n y).map fun x => T x.2).symm
  have hm : (Th.mp M b l).le (Th.mp M b (putL l n y)) := fun {F w} h => ⟨h.1, Mp.turn h.2 (by
    obtain ⟨l1, l2, rfl⟩ := List.append_of_mem (getL_mem hg)
    rw [putL_mid hd]
    simp [hv])⟩
  exact and_mono hm (all_perm hp) (and_left _ _ _ h)
/-- 'm[n] = y': y becomes what stands at n. -/
theorem mx_store (h : ((T y).and (MXh M T b l n)).In F w) (hn : M.ok n) : ∃ w', (Instr.mapUpdate M.t (.map (some b)) (M.key n) (M.val y)).run P w = .ok () w' ∧ Bec F w (MX M T b (putL l n y)) w' ∧ w.mapTurned w' b := by
  have k1 := (Bec.refl h).imp (and_left _ _ _)
  obtain ⟨G, k2, k3⟩ := k1.open
  obtain ⟨w', h1, h2, h3⟩ := k2.2.store hn y
  refine ⟨w', h1, (k3 (mp_turn k2 h2 h3)).imp ?_, h3⟩
  exact fun {F w} k => and_mono (Th.le.refl _) (all_perm (((putL_perm k2.2.apart n y).map fun x => T x.2).symm)) k
theorem mx_drop (h : (MX M T b l).In F w) (hn : M.ok n) (ty : TypeId) : ∃ w', (Builtin.delete_ #[M.t, M.k] ty #[.map (some b), M.key n]).run P w = .ok (.tuple #[]) w' ∧ Bec F w (MX M T b (delL l n)) w' ∧ w.mapTurned w' b := by
  have k1 : Bec F w (MXh M T b l n) w := mx_hole h
  obtain ⟨G, k2, k3⟩ := k1.open
  obtain ⟨w', h1, h2, h3⟩ := k2.2.drop hn ty
  exact ⟨w', h1, k3 (mp_turn k2 h2 h3), h3⟩
/-- One opened: what becomes of it, where the map itself stays. -/
theorem mx_open (h : (MX M T b l).In F w) (hg : getL l n = some x) : ∃ G, (T x).In G w ∧ ∀ {y : β} {w' : World}, M.val y = M.val x → Bec G w (T y) w' → Bec F w (MX M T b (putL l n y)) w' := by
  obtain ⟨G, h1, h2⟩ := In.open (mx_pick h hg)
  exact ⟨G, h1, fun hv hb => (h2 hb).imp fun k => mx_back k hg hv⟩
/-- 'm[n2] = m[n]; delete(m, n)'. -/
theorem mx_move {n2 : α} (h : (MX M T b l).In F w) (hg : getL l n = some x) (hg2 : getL l n2 = none) (hn : M.ok n) (hn2 : M.ok n2) (ty : TypeId) (hT : (T x).le (T y)) (hv : M.val y = M.val x) :
    ∃ w1 w2, (Instr.mapUpdate M.t (.map (some b)) (M.key n2) (M.val x)).run P w = .ok () w1 ∧ w.mapTurned w1 b ∧ (Builtin.delete_ #[M.t, M.k] ty #[.map (some b), M.key n]).run P w1 = .ok (.tuple #[]) w2 ∧ w1.mapTurned w2 b ∧ Bec F w (MX M T b (delL (putL l n2 y) n)) w2 := by
  have hne : n2 ≠ n := fun e => by rw [e, hg] at hg2; cases hg2
  have hd := (MX.mp h).apart
  obtain ⟨G, k2, k3⟩ := In.open h
  obtain ⟨w1, h1, h2, h3⟩ := k2.2.store hn2 y
  rw [hv] at h1
  have m1 := mp_turn k2 h2 h3
  obtain ⟨G1, m2, m3⟩ := m1.next
  obtain ⟨w2, h4, h5, h6⟩ := m2.2.drop hn ty
  refine ⟨w1, w2, h1, h3, h4, h6, (k3 (m3 (mp_turn m2 h5 h6))).imp ?_⟩
  have e1 : putL l n2 y = l ++ [(n2, y)] := putL_new (getL_none' hg2) y
  have e2 : delL (putL l n2 y) n = delL l n ++ [(n2, y)] := by
    rw [e1]
    unfold delL
    rw [List.filter_append]
    simp [hne]
  have e3 : (Th.all (l.map fun x => T x.2)).le (Th.all ((delL (putL l n2 y) n).map fun x => T x.2)) := by
    rw [e2, List.map_append]
    exact Th.le.trans (all_perm ((get_perm hd hg).map fun x => T x.2)) (Th.le.trans (and_mono hT (Th.le.refl _)) (all_snoc _ _))
  exact fun {F w} k => and_mono (Th.le.refl _) e3 k
end
end Go.Proofs.Ytdeaniigimmoaaa
