/- Own texts, joined: ZRow, ZRow2, ZRow3, UMath, UMath2, WCutM, UMath3, Z, WAlign, WTz, WCut, URow. -/
import Derived.WalkKit
import Derived.WalkSpells
import Derived.WalkLawsBesides
import Derived.Below
import Derived.OwnWalk
import Derived.Deep.AppendLies
import Derived.Laws.OwnMore
import Derived.Laws.IdiomCopy
import Derived.Deep.RegionHeld3
import Derived.Lib.Overlaps
import Derived.Lib.AppendZerosOnto
import Derived.Laws.NewBlocks
import Derived.Lib.TrailingZeros
import Derived.Lib.BitFns
import Derived.Laws.BitsAllLaws
import Derived.Test.YtmmbfgkfidconaaDoorRows
import Derived.BigQuiet
import Derived.Deep.QuietTactic
import Derived.Lib.IfaceEq
import Derived.Lib.IfaceNeq
import Derived.Laws.Bits64b
import Derived.Lib.Strings
import Derived.Lib.Slices
import Derived.Lib.Small
import Derived.Lib.Walk
/- Rows of records of any kind: how they lie, what is read of them, appended and stored. No word of the program. -/
namespace Go.Proofs.YtmmbfgkfidconaaDoor
open Go.RowKit

/-- A kind of record: its type, how many cells it has, and which. -/
structure Rec (α : Type) where
  t : TypeId
  n : Nat
  bytes : Nat
  zero : α
  cells : α → List Value
  len : ∀ x, (cells x).length = n
  npos : 0 < n
  one : ∀ x, ∀ u ∈ cells x, u.oneCell' = true

section
variable {α : Type} (R : Rec α)

def Rec.all (L : List α) : List Value := L.flatMap R.cells
theorem Rec.all_nil : R.all [] = [] := rfl
theorem Rec.all_append (L M : List α) : R.all (L ++ M) = R.all L ++ R.all M := by simp [Rec.all]
theorem Rec.all_one (x : α) : R.all [x] = R.cells x := by simp [Rec.all]
theorem Rec.all_snoc (L : List α) (x : α) : R.all (L ++ [x]) = R.all L ++ R.cells x := by simp [Rec.all]
theorem Rec.all_cons (x : α) (L : List α) : R.all (x :: L) = R.cells x ++ R.all L := by simp [Rec.all]
theorem Rec.all_len : ∀ L : List α, (R.all L).length = L.length * R.n
  | [] => by simp [Rec.all]
  | x :: L => by
    rw [R.all_cons, List.length_append, Rec.all_len L, List.length_cons, R.len, Nat.add_mul]
    omega
theorem Rec.all_oneCell (L : List α) : ∀ u ∈ R.all L, u.oneCell' = true := by
  intro u hu
  obtain ⟨x, _, hx⟩ := List.mem_flatMap.1 hu
  exact R.one x u hx
theorem Rec.all_at : ∀ (L : List α) (k j : Nat), k < L.length → j < R.n → (R.all L)[k * R.n + j]? = (R.cells (L.getD k R.zero))[j]? := by
  intro L
  induction L with
  | nil => intro k j hk; simp at hk
  | cons x L ih =>
    intro k j hk hj
    rw [R.all_cons]
    cases k with
    | zero =>
      rw [List.getElem?_append_left (by rw [R.len]; omega)]
      simp
    | succ k =>
      have e : (k + 1) * R.n + j = R.n + (k * R.n + j) := by rw [Nat.add_mul]; omega
      rw [e, List.getElem?_append_right (by rw [R.len]; omega), R.len, show R.n + (k * R.n + j) - R.n = k * R.n + j by omega, ih k j (by simpa using hk) hj]
      simp
theorem Rec.div_lt {L : List α} {j : Nat} (h : j < L.length * R.n) : j / R.n < L.length ∧ j % R.n < R.n ∧ j = j / R.n * R.n + j % R.n := by
  refine ⟨(Nat.div_lt_iff_lt_mul R.npos).2 h, Nat.mod_lt _ R.npos, ?_⟩
  have := Nat.div_add_mod j R.n
  rw [Nat.mul_comm] at this
  exact this.symm
theorem Rec.cell_some (x : α) {j : Nat} (hj : j < R.n) : ∃ u, (R.cells x)[j]? = some u := ⟨_, List.getElem?_eq_getElem (by rw [R.len]; exact hj)⟩

/-- A row that a call owns. -/
def Row (B : Nat) (w : World) (v : Value) (l : List α) : Prop := w.ownsRow B R.t R.n v l.length (R.all l)
/-- The cells of a record, at a place. -/
def At (w : World) (b o : Nat) (x : α) : Prop := ∀ j, j < R.n → w.cell? ⟨b, o + j, none⟩ = (R.cells x)[j]?
/-- A row that is only read, at any place of its block. -/
def Seen (w : World) (ao : Option Addr) (c : Nat) (l : List α) : Prop :=
  (ao = none → l = [] ∧ c = 0) ∧ ∀ ad, ao = some ad → ∃ g off, ad = ⟨g, off, none⟩ ∧ g < w.heap.size ∧ ∀ k, k < l.length → At R w g (off + k * R.n) (l.getD k R.zero)
end

section
variable {α : Type} {R : Rec α} {B : Nat} {w w' : World} {v : Value} {l : List α}

theorem Row.nil (R : Rec α) (B : Nat) (w : World) : Row R B w (.slice none 0 0) [] := World.ownsRow_nil _ _ _ _
theorem Row.cases (h : Row R B w v l) : (v = .slice none 0 0 ∧ l = []) ∨ ∃ g c cur, v = .slice (some ⟨g, 0, none⟩) l.length c ∧ B ≤ g ∧ g < w.heap.size ∧ w.heap[g]? = some (.cells cur R.t (0, 0)) ∧ l.length ≤ c ∧ c ≤ maxLen ∧ cur.size = c * R.n ∧ cur.toList.take (l.length * R.n) = R.all l := by
  rcases h.2 with ⟨rfl, h0⟩ | ⟨g, cap, cur, rfl, hb, hg, h1, h2, h3, ht⟩
  · exact Or.inl ⟨rfl, List.eq_nil_of_length_eq_zero h0⟩
  · exact Or.inr ⟨g, cap, cur, rfl, hb, (Array.getElem?_eq_some_iff.1 hg).1, hg, h1, h2, h3, ht⟩
theorem Row.form (h : Row R B w v l) : ∃ ao c, v = .slice ao l.length c := by
  rcases h.cases with ⟨rfl, rfl⟩ | ⟨g, c, cur, rfl, _⟩
  · exact ⟨none, 0, rfl⟩
  · exact ⟨_, _, rfl⟩
theorem Row.kept {row : Option Nat} (h : Row R B w v l) (hg : w.grownBy w' row) (hne : v.ownBlock = none ∨ v.ownBlock ≠ row) : Row R B w' v l := World.ownsRow.kept h hg hne
theorem Row.below (h : Row R B w v l) (hb : Below w.heap.size w w') : Row R B w' v l :=
  h.kept (row := none) ⟨hb.os, hb.tape, hb.output, hb.size, fun k hk _ => hb.block k hk⟩ (by cases v.ownBlock <;> simp)
theorem Row.lower {B' : Nat} (h : Row R B w v l) (hB : B' ≤ B) : Row R B' w v l := by
  refine ⟨h.1, ?_⟩
  rcases h.2 with h' | ⟨g, cap, cur, h1, h2, h3⟩
  · exact Or.inl h'
  · exact Or.inr ⟨g, cap, cur, h1, by omega, h3⟩
theorem Row.lt (h : Row R B w v l) : ∀ g, v.ownBlock = some g → B ≤ g ∧ g < w.heap.size := World.ownsRow.lt h
theorem Row.tag (h : Row R B w v l) {g : Nat} (hg : v.ownBlock = some g) : ∃ cur, w.heap[g]? = some (.cells cur R.t (0, 0)) := by
  rcases h.cases with ⟨rfl, rfl⟩ | ⟨g', c, cur, rfl, _, _, h1, _⟩
  · simp [Value.ownBlock] at hg
  · simp [Value.ownBlock] at hg
    subst hg
    exact ⟨cur, h1⟩
/-- What another block's change leaves. -/
theorem Row.same (h : Row R B w v l) (hb : ∀ g, v.ownBlock = some g → w'.heap[g]? = w.heap[g]?) : Row R B w' v l := by
  refine ⟨h.1, ?_⟩
  rcases h.2 with h' | ⟨g, cap, cur, rfl, h2, h3, h4⟩
  · exact Or.inl h'
  · exact Or.inr ⟨g, cap, cur, rfl, h2, (hb g rfl).trans h3, h4⟩
theorem row_cell {g : Nat} {cur : Array Value} (hg : w.heap[g]? = some (.cells cur R.t (0, 0))) (ht : cur.toList.take (l.length * R.n) = R.all l) {k : Nat} (hk : k < l.length) : At R w g (k * R.n) (l.getD k R.zero) := by
  intro j hj
  have hlt : k * R.n + j < l.length * R.n := by
    have : (k + 1) * R.n ≤ l.length * R.n := Nat.mul_le_mul_right _ hk
    rw [Nat.add_mul] at this
    omega
  rw [cell_of_row w g _ cur _ _ hg, ← R.all_at l k j hk hj, ← ht, List.getElem?_take_of_lt hlt, Array.getElem?_toList]
theorem Row.at {ao : Option Addr} {n c : Nat} (h : Row R B w (.slice ao n c) l) {k : Nat} (hk : k < l.length) : ∃ g, ao = some ⟨g, 0, none⟩ ∧ n = l.length ∧ B ≤ g ∧ g < w.heap.size ∧ l.length ≤ c ∧ c ≤ maxLen ∧ At R w g (k * R.n) (l.getD k R.zero) := by
  rcases h.cases with ⟨_, rfl⟩ | ⟨g, c', cur, hv, hB, hlt, hg, hlc, hcm, _, ht⟩
  · simp at hk
  · cases hv
    exact ⟨g, rfl, rfl, hB, hlt, hlc, hcm, row_cell hg ht hk⟩
theorem Row.seen {ao : Option Addr} {n c : Nat} (h : Row R B w (.slice ao n c) l) : n = l.length ∧ Seen R w ao c l := by
  rcases h.cases with ⟨e, rfl⟩ | ⟨g, c', cur, e, _, hlt, hg, _, _, _, ht⟩
  · cases e
    exact ⟨rfl, fun _ => ⟨rfl, rfl⟩, fun ad h => (by cases h)⟩
  · cases e
    refine ⟨rfl, fun h => (by cases h), fun ad e => ?_⟩
    cases e
    exact ⟨g, 0, rfl, hlt, fun k hk => by rw [Nat.zero_add]; exact row_cell hg ht hk⟩
theorem At.same {b o : Nat} {x : α} (h : At R w b o x) (hb : w'.heap[b]? = w.heap[b]?) : At R w' b o x := fun j hj => by
  rw [World.cell?_of_block (w := w) (w' := w') (a := ⟨b, o + j, none⟩) hb]
  exact h j hj
theorem Seen.same {ao : Option Addr} {c : Nat} (h : Seen R w ao c l) (hs : w.heap.size ≤ w'.heap.size) (hb : ∀ ad, ao = some ad → w'.heap[ad.block]? = w.heap[ad.block]?) : Seen R w' ao c l := by
  refine ⟨h.1, fun ad e => ?_⟩
  obtain ⟨g, off, rfl, hg, hc⟩ := h.2 ad e
  exact ⟨g, off, rfl, Nat.lt_of_lt_of_le hg hs, fun k hk => (hc k hk).same (hb _ e)⟩
theorem Seen.below {ao : Option Addr} {c : Nat} (h : Seen R w ao c l) (hb : Below w.heap.size w w') : Seen R w' ao c l :=
  h.same hb.size fun ad e => by
    obtain ⟨g, off, rfl, hg, _⟩ := h.2 ad e
    exact hb.block g hg
theorem Seen.news {ao : Option Addr} {c : Nat} (h : Seen R w ao c l) : ∀ ad, ao = some ad → ∀ j u, (R.all l)[j]? = some u → w.cell? (ad.add j) = some u := by
  intro ad e j u hj
  obtain ⟨g, off, rfl, _, hc⟩ := h.2 ad e
  have hjl : j < l.length * R.n := by
    have := (List.getElem?_eq_some_iff.1 hj).1
    rwa [R.all_len] at this
  obtain ⟨h1, h2, h3⟩ := R.div_lt hjl
  rw [Addr.add_lit, show off + j = off + j / R.n * R.n + j % R.n by omega, hc _ h1 _ h2, ← R.all_at l _ _ h1 h2, ← h3]
  exact hj
theorem Seen.one {b o : Nat} {x : α} (hb : b < w.heap.size) (h : At R w b o x) (c : Nat) : Seen R w (some ⟨b, o, none⟩) c [x] := by
  refine ⟨fun e => (by cases e), fun ad e => ?_⟩
  cases e
  refine ⟨b, o, rfl, hb, fun k hk => ?_⟩
  simp at hk
  subst hk
  simpa using h
/-- A record that lies as a block of its own. -/
theorem At.new (w : World) (x : α) (o : Obj) (ho : o = .cells (R.cells x).toArray R.t (0, 0)) : At R (w.alloc o) w.heap.size 0 x := by
  intro j hj
  subst ho
  rw [cell_of_row _ w.heap.size _ _ _ _ (heap_alloc_new w _), Nat.zero_add]
  simp
/-- A part of a row. -/
theorem Seen.part {g off c : Nat} (h : Seen R w (some ⟨g, off, none⟩) c l) (m n o c' : Nat) (hm : m + n ≤ l.length) (ho : n = 0 ∨ o = off + m * R.n) : Seen R w (some ⟨g, o, none⟩) c' ((l.drop m).take n) := by
  refine ⟨fun e => (by cases e), fun ad e => ?_⟩
  cases e
  obtain ⟨g', off', e, hg, hc⟩ := h.2 _ rfl
  cases e
  refine ⟨g, o, rfl, hg, fun k hk => ?_⟩
  have hk' : k < n ∧ k < l.length - m := by
    simp at hk
    omega
  rcases ho with rfl | rfl
  · omega
  · have h1 := hc (m + k) (by omega)
    have e2 : ((l.drop m).take n).getD k R.zero = l.getD (m + k) R.zero := by
      rw [List.getD_eq_getElem?_getD, List.getD_eq_getElem?_getD, List.getElem?_take_of_lt hk'.1, List.getElem?_drop]
    rw [e2, show off + m * R.n + k * R.n = off + (m + k) * R.n by rw [Nat.add_mul]; omega]
    exact h1
end

/-- What the program must say of a kind of record. -/
structure Kin (P : Program) {α : Type} (R : Rec α) (s : TypeId) : Prop where
  und : P.underlying s = some (.slice R.t)
  inf : ∃ i z, P.info? R.t = some i ∧ i.zero = some z ∧ i.size = R.n ∧ i.bytes = R.bytes ∧ z.cells.size = R.n
theorem Kin.of {P : Program} {α : Type} {R : Rec α} {s : TypeId} {z : Value} (hu : P.underlying s = some (.slice R.t)) (hi : (P.info? R.t).map (fun i => (i.zero, i.size, i.bytes)) = some (some z, R.n, R.bytes)) (hz : z.cells.size = R.n) : Kin P R s := by
  refine ⟨hu, ?_⟩
  cases h : P.info? R.t with
  | none => rw [h] at hi; simp at hi
  | some i =>
    rw [h] at hi
    simp at hi
    exact ⟨i, z, rfl, hi.1, hi.2.1, hi.2.2, hz⟩

section
variable {P : Program} {α : Type} {R : Rec α} {s : TypeId}

/-- 'append(xs, ys...)' -/
theorem run_app (k : Kin P R s) (w : World) (ty : TypeId) (B : Nat) (v : Value) (l1 l2 : List α) (h : Row R B w v l1) (ao : Option Addr) (c : Nat) (hs : Seen R w ao c l2) (hm : l1.length + l2.length ≤ maxLen) (hb : (l1.length + l2.length) * R.bytes ≤ 140737488355328) (hB : B ≤ w.heap.size) :
    ∃ v' w', (Builtin.append_ #[s, s] ty #[v, .slice ao l2.length c]).run P w = .ok v' w' ∧ Row R B w' v' (l1 ++ l2) ∧ w.grownBy w' v.ownBlock := by
  obtain ⟨i, z, hi, hz0, hz1, hz2, hzs⟩ := k.inf
  cases ao with
  | none =>
    obtain ⟨rfl, rfl⟩ := hs.1 rfl
    rw [List.append_nil]
    exact ⟨v, w, run_append_owned_none (P := P) w B s ty R.t i R.n k.und hi _ _ _ h, h, World.grownBy.refl _ _⟩
  | some ad =>
    obtain ⟨v', w', hr, h2, h3, h4⟩ := run_append_own (P := P) w B s ty R.t i z R.n R.bytes k.und hi hz0 hz1 hz2 hzs R.npos v l1.length (R.all l1) h ad l2.length c (R.all l2) (R.all_len l2) (hs.news ad rfl) (R.all_oneCell l2) hm hb hB
    refine ⟨v', w', hr, ?_, h3⟩
    unfold Row
    rw [R.all_append, List.length_append]
    exact h2
/-- .. at 'Oper.wp'. -/
theorem wp_app (k : Kin P R s) {o : Oper} {a : Act} {w : World} {K : Act → World → Prop} {Q : Exit → Act → World → Prop} (x y : Operand) (ho : o.op = .call { callee := .builtin .append, args := #[x, y], argTypes := #[s, s] })
    (B : Nat) (v : Value) (l1 l2 : List α) (hv : a.eval x = v) (h : Row R B w v l1) (ao : Option Addr) (n c : Nat) (hy : a.eval y = .slice ao n c) (hn : n = l2.length) (hs : Seen R w ao c l2) (hm : l1.length + l2.length ≤ maxLen) (hb : (l1.length + l2.length) * R.bytes ≤ 140737488355328) (hB : B ≤ w.heap.size)
    (hK : ∀ v' w', Row R B w' v' (l1 ++ l2) → w.grownBy w' v.ownBlock → K (a.put o.dst v') w') : Oper.wp P o a w K Q := by
  subst hn
  obtain ⟨v', w', hr, h2, h3⟩ := run_app k w o.type B v l1 l2 h ao c hs hm hb hB
  unfold Oper.wp execOp
  simp only [ho, resolve, invoke, builtin, Sem.run_bind, Sem.run_pure, Result.andThen_ok, List.map_toArray, List.map_cons, List.map_nil, hv, hy, hr]
  exact hK v' w' h2 h3
/-- .. at a step of a region that draws. -/
theorem step_app (k : Kin P R s) {ops : Array Oper} {o : Oper} {a : Act} {w : World} {K : Act → World → Prop} {Q : Exit → Act → World → Prop} {E : Prop} (hg : o.guard = none) (x y : Operand) (ho : o.op = .call { callee := .builtin .append, args := #[x, y], argTypes := #[s, s] })
    (B : Nat) (v : Value) (l1 l2 : List α) (hv : a.eval x = v) (h : Row R B w v l1) (ao : Option Addr) (n c : Nat) (hy : a.eval y = .slice ao n c) (hn : n = l2.length) (hs : Seen R w ao c l2) (hm : l1.length + l2.length ≤ maxLen) (hb : (l1.length + l2.length) * R.bytes ≤ 140737488355328) (hB : B ≤ w.heap.size)
    (hK : ∀ v' w', Row R B w' v' (l1 ++ l2) → w.grownBy w' v.ownBlock → K (a.put o.dst v') w') : if Region.wanted o (yielded ops a.tmps) = true then Oper.wp P o a w K Q else E := by
  rw [if_pos (show Region.wanted o (yielded ops a.tmps) = true by simp [Region.wanted, hg])]
  exact wp_app k x y ho B v l1 l2 hv h ao n c hy hn hs hm hb hB hK
/-- .. in a region that doesn't. -/
theorem list_app (k : Kin P R s) {ops : Array Oper} {rest : List Oper} {o : Oper} {a : Act} {w : World} {Q : Exit → Act → World → Prop} (hg : o.guard = none) (x y : Operand) (ho : o.op = .call { callee := .builtin .append, args := #[x, y], argTypes := #[s, s] })
    (B : Nat) (v : Value) (l1 l2 : List α) (hv : a.eval x = v) (h : Row R B w v l1) (ao : Option Addr) (n c : Nat) (hy : a.eval y = .slice ao n c) (hn : n = l2.length) (hs : Seen R w ao c l2) (hm : l1.length + l2.length ≤ maxLen) (hb : (l1.length + l2.length) * R.bytes ≤ 140737488355328) (hB : B ≤ w.heap.size)
    (hK : ∀ v' w', Row R B w' v' (l1 ++ l2) → w.grownBy w' v.ownBlock → wpList P ops Q rest (a.put o.dst v') w') : wpList P ops Q (o :: rest) a w :=
  wpList_plain hg fun _ hK' => wp_app k x y ho B v l1 l2 hv h ao n c hy hn hs hm hb hB fun v' w' h2 h3 => hK' _ _ (hK v' w' h2 h3)
end
end Go.Proofs.YtmmbfgkfidconaaDoor
/- Rows of records: what is stored into one; what a call leaves as it was. No word of the program. -/
namespace Go.Proofs.YtmmbfgkfidconaaDoor
open Go.RowKit

/-- All but the blocks of s stays as it was. -/
structure Keeps (w w' : World) (s : Nat → Prop) : Prop where
  os : w'.os = w.os
  tape : w'.tape = w.tape
  output : w'.output = w.output
  size : w.heap.size ≤ w'.heap.size
  block : ∀ b, b < w.heap.size → ¬ s b → w'.heap[b]? = w.heap[b]?
section
variable {a w w' w'' : World} {s s' : Nat → Prop}
theorem Keeps.refl (w : World) (s : Nat → Prop) : Keeps w w s := ⟨rfl, rfl, rfl, Nat.le_refl _, fun _ _ _ => rfl⟩
theorem Keeps.of_below (h : Below w.heap.size w w') (s : Nat → Prop) : Keeps w w' s := ⟨h.os, h.tape, h.output, h.size, fun b hb _ => h.block b hb⟩
theorem Keeps.of_grown {row : Option Nat} (h : w.grownBy w' row) : Keeps w w' (fun b => row = some b) := ⟨h.os, h.tape, h.output, h.size, fun b hb hn => h.block b hb fun e => hn e.symm⟩
theorem Keeps.mono (h : Keeps w w' s) (hs : ∀ b, b < w.heap.size → s b → s' b) : Keeps w w' s' := ⟨h.os, h.tape, h.output, h.size, fun b hb hn => h.block b hb fun e => hn (hs b hb e)⟩
theorem Keeps.trans (h : Keeps w w' s) (h' : Keeps w' w'' s') (hs : ∀ b, b < w.heap.size → s' b → s b) : Keeps w w'' s :=
  ⟨h'.os.trans h.os, h'.tape.trans h.tape, h'.output.trans h.output, Nat.le_trans h.size h'.size, fun b hb hn => (h'.block b (Nat.lt_of_lt_of_le hb h.size) fun e => hn (hs b hb e)).trans (h.block b hb hn)⟩
theorem Keeps.below {B : Nat} (h : Keeps w w' s) (hB : B ≤ w.heap.size) (hs : ∀ b, b < w.heap.size → s b → B ≤ b) : Below B w w' :=
  ⟨h.os, h.tape, h.output, h.size, fun b hb => h.block b (by omega) fun e => by have := hs b (by omega) e; omega⟩
theorem Keeps.cell (h : Keeps w w' s) {b : Nat} (hb : b < w.heap.size) (hn : ¬ s b) (o : Nat) : w'.cell? ⟨b, o, none⟩ = w.cell? ⟨b, o, none⟩ := World.cell?_of_block (h.block b hb hn)
theorem Keeps.frozen (h : Keeps w w' s) {b : Nat} (hb : b < w.heap.size) (hn : ¬ s b) (o : Nat) : w'.frozen? ⟨b, o, none⟩ = w.frozen? ⟨b, o, none⟩ := World.frozen?_of_block (h.block b hb hn)
theorem Keeps.set (w : World) (g o : Nat) (v : Value) : Keeps w (w.setCell ⟨g, o, none⟩ v) (fun b => b = g) := ⟨rfl, rfl, rfl, by simp, fun k hk hne => heap_setCell_other w _ k v (fun e => hne e)⟩
theorem Keeps.sets : ∀ (vs : List Value) (w : World) (g o : Nat), Keeps w (w.setCells g o vs) (fun b => b = g)
  | [], w, _, _ => Keeps.refl w _
  | v :: r, w, g, o => (Keeps.set w g o v).trans (Keeps.sets r (w.setCell ⟨g, o, none⟩ v) g (o + 1)) fun _ _ h => h
theorem Keeps.row {α : Type} {R : Rec α} {B : Nat} {v : Value} {l : List α} (h : Keeps w w' s) (hr : Row R B w v l) (hn : ∀ g, v.ownBlock = some g → ¬ s g) : Row R B w' v l :=
  hr.same fun g hg => h.block g (hr.lt g hg).2 (hn g hg)
theorem Keeps.at {α : Type} {R : Rec α} {b o : Nat} {x : α} (h : Keeps w w' s) (hr : At R w b o x) (hb : b < w.heap.size) (hn : ¬ s b) : At R w' b o x := hr.same (h.block b hb hn)
theorem Keeps.seen {α : Type} {R : Rec α} {ao : Option Addr} {c : Nat} {l : List α} (h : Keeps w w' s) (hr : Seen R w ao c l) (hn : ∀ ad, ao = some ad → ¬ s ad.block) : Seen R w' ao c l :=
  hr.same h.size fun ad e => by
    obtain ⟨g, off, rfl, hg, _⟩ := hr.2 ad e
    exact h.block g hg (hn _ e)
end

/-- Cells written one behind the other. -/
def wrs (cur : Array Value) : Nat → List Value → Array Value
  | _, [] => cur
  | o, v :: r => wrs (cur.setIfInBounds o v) (o + 1) r
theorem wrs_size : ∀ (vs : List Value) (cur : Array Value) (o : Nat), (wrs cur o vs).size = cur.size
  | [], _, _ => rfl
  | v :: r, cur, o => by rw [wrs, wrs_size r]; simp
theorem wrs_out : ∀ (vs : List Value) (cur : Array Value) (o j : Nat), (j < o ∨ o + vs.length ≤ j) → (wrs cur o vs)[j]? = cur[j]?
  | [], _, _, _, _ => rfl
  | v :: r, cur, o, j, h => by
    rw [wrs, wrs_out r _ _ j (by simp at h; omega), Array.getElem?_setIfInBounds_ne (by simp at h; omega)]
theorem wrs_in : ∀ (vs : List Value) (cur : Array Value) (o j : Nat), j < vs.length → o + vs.length ≤ cur.size → (wrs cur o vs)[o + j]? = vs[j]?
  | [], _, _, _, hj, _ => by simp at hj
  | v :: r, cur, o, 0, _, hs => by
    rw [wrs, wrs_out r _ _ _ (Or.inl (by omega))]
    have : o < cur.size := by simp at hs; omega
    simp [this]
  | v :: r, cur, o, j + 1, hj, hs => by
    rw [wrs, show o + (j + 1) = o + 1 + j by omega, wrs_in r _ (o + 1) j (by simpa using hj) (by simp at hs ⊢; omega)]
    simp
theorem heap_sets : ∀ (vs : List Value) (w : World) (g o : Nat) (cur : Array Value) (t : TypeId), w.heap[g]? = some (.cells cur t (0, 0)) → (w.setCells g o vs).heap[g]? = some (.cells (wrs cur o vs) t (0, 0))
  | [], _, _, _, _, _, h => h
  | v :: r, w, g, o, cur, t, h => by
    rw [World.setCells, wrs]
    exact heap_sets r _ g (o + 1) _ t (heap_setCell_same w g o cur t v h)

section
variable {α : Type} {R : Rec α} {B : Nat} {w : World} {l : List α}
/-- A row told by its cells. -/
theorem Row.of_cells {w' : World} {g c : Nat} {cur : Array Value} {l' : List α} (hB : B ≤ g) (hg : w'.heap[g]? = some (.cells cur R.t (0, 0))) (hl : l'.length ≤ c) (hc : c ≤ maxLen) (hs : cur.size = c * R.n) (h : ∀ k, k < l'.length → ∀ j, j < R.n → cur[k * R.n + j]? = (R.cells (l'.getD k R.zero))[j]?) : Row R B w' (.slice (some ⟨g, 0, none⟩) l'.length c) l' := by
  refine ⟨R.all_len l', Or.inr ⟨g, c, cur, rfl, hB, hg, hl, hc, hs, ?_⟩⟩
  apply List.ext_getElem?
  intro n
  by_cases hn : n < l'.length * R.n
  · rw [List.getElem?_take_of_lt hn, Array.getElem?_toList]
    obtain ⟨h1, h2, h3⟩ := R.div_lt hn
    rw [h3, R.all_at l' _ _ h1 h2]
    exact h _ h1 _ h2
  · rw [List.getElem?_eq_none (by simp; omega), List.getElem?_eq_none (by rw [R.all_len]; omega)]
theorem Row.cur {g n c : Nat} (h : Row R B w (.slice (some ⟨g, 0, none⟩) n c) l) : n = l.length ∧ B ≤ g ∧ g < w.heap.size ∧ ∃ cur : Array Value, w.heap[g]? = some (.cells cur R.t (0, 0)) ∧ l.length ≤ c ∧ c ≤ maxLen ∧ cur.size = c * R.n ∧ ∀ k, k < l.length → ∀ j, j < R.n → cur[k * R.n + j]? = (R.cells (l.getD k R.zero))[j]? := by
  rcases h.cases with ⟨e, _⟩ | ⟨g', c', cur, e, hB, hlt, hg, hlc, hcm, hs, ht⟩
  · cases e
  · cases e
    refine ⟨rfl, hB, hlt, cur, hg, hlc, hcm, hs, fun k hk j hj => ?_⟩
    have := row_cell (R := R) hg ht hk j hj
    rwa [cell_of_row w g _ cur _ _ hg] at this
/-- Cells stored within one of them: it is another one. -/
theorem Row.sets {g n c : Nat} (h : Row R B w (.slice (some ⟨g, 0, none⟩) n c) l) (i o : Nat) (vs : List Value) (x : α) (hi : i < l.length) (ho : o + vs.length ≤ R.n)
    (h1 : ∀ j, j < vs.length → (R.cells x)[o + j]? = vs[j]?) (h2 : ∀ j, j < R.n → (j < o ∨ o + vs.length ≤ j) → (R.cells x)[j]? = (R.cells (l.getD i R.zero))[j]?) : Row R B (w.setCells g (i * R.n + o) vs) (.slice (some ⟨g, 0, none⟩) n c) (l.set i x) := by
  obtain ⟨rfl, hB, _, cur, hg, hlc, hcm, hs, hc⟩ := h.cur
  have hin : (i + 1) * R.n ≤ c * R.n := Nat.mul_le_mul_right _ (by omega)
  rw [Nat.add_mul] at hin
  have key := Row.of_cells (R := R) (B := B) (l' := l.set i x) (c := c) hB (heap_sets vs w g (i * R.n + o) cur R.t hg) (by simpa using hlc) hcm (by rw [wrs_size]; exact hs) (by
    intro k hk j hj
    have hk' : k < l.length := by simpa using hk
    by_cases hki : k = i
    · subst hki
      rw [List.getD_eq_getElem?_getD, List.getElem?_set_self hk', Option.getD_some]
      by_cases hjo : j < o ∨ o + vs.length ≤ j
      · rw [wrs_out _ _ _ _ (by omega), hc k hk' j hj, h2 j hj hjo]
      · obtain ⟨t, rfl⟩ : ∃ t, j = o + t := ⟨j - o, by omega⟩
        rw [← Nat.add_assoc, wrs_in vs cur (k * R.n + o) t (by omega) (by omega), h1 t (by omega)]
    · have hmul : k * R.n + j < i * R.n ∨ i * R.n + R.n ≤ k * R.n + j := by
        rcases Nat.lt_or_gt_of_ne hki with h' | h'
        · have : (k + 1) * R.n ≤ i * R.n := Nat.mul_le_mul_right _ h'
          rw [Nat.add_mul] at this
          omega
        · have : (i + 1) * R.n ≤ k * R.n := Nat.mul_le_mul_right _ h'
          rw [Nat.add_mul] at this
          omega
      rw [wrs_out _ _ _ _ (by omega), hc k hk' j hj, List.getD_eq_getElem?_getD, List.getD_eq_getElem?_getD, List.getElem?_set_ne (Ne.symm hki)])
  simpa using key
/-- One is stored over another one. -/
theorem Row.put {g n c : Nat} (h : Row R B w (.slice (some ⟨g, 0, none⟩) n c) l) (i : Nat) (x : α) (hi : i < l.length) : Row R B (w.setCells g (i * R.n) (R.cells x)) (.slice (some ⟨g, 0, none⟩) n c) (l.set i x) := by
  have := h.sets i 0 (R.cells x) x hi (by rw [R.len]; omega) (fun j _ => by rw [Nat.zero_add]) (fun j hj hn => by rw [R.len] at hn; omega)
  simpa using this
/-- One of its cells is stored. -/
theorem Row.put1 {g n c : Nat} (h : Row R B w (.slice (some ⟨g, 0, none⟩) n c) l) (i o : Nat) (u : Value) (x : α) (hi : i < l.length) (ho : o < R.n) (hx : R.cells x = (R.cells (l.getD i R.zero)).set o u) : Row R B (w.setCell ⟨g, i * R.n + o, none⟩ u) (.slice (some ⟨g, 0, none⟩) n c) (l.set i x) := by
  have := h.sets i o [u] x hi (by simp; omega) (fun j hj => by
    obtain rfl : j = 0 := by simpa using hj
    rw [hx, Nat.add_zero, List.getElem?_set_self (by rw [R.len]; exact ho)]
    rfl) (fun j hj hn => by rw [hx, List.getElem?_set_ne (by simp at hn; omega)])
  exact this
theorem Row.frozen {g n c : Nat} (h : Row R B w (.slice (some ⟨g, 0, none⟩) n c) l) (j : Nat) : w.frozen? ⟨g, j, none⟩ = false := by
  obtain ⟨_, _, _, cur, hg, _⟩ := h.cur
  exact frozen_of_row w g j cur _ hg
end
end Go.Proofs.YtmmbfgkfidconaaDoor
/- Rows of records: copied within and between rows, cleared, grown by zeros. No word of the program. -/
namespace Go.Proofs.YtmmbfgkfidconaaDoor
open Go.RowKit

section
variable {P : Program} {α : Type} {R : Rec α} {s : TypeId}

/-- 'copy(d, x)' of n records, whatever overlaps. -/
theorem run_copyR (k : Kin P R s) (w : World) (ty : TypeId) (b o dLen dCap : Nat) (a : Addr) (sLen sCap n : Nat) (cs : List Value) (hn : n = Nat.min sLen dLen) (hl : cs.length = n * R.n)
    (hsrc : ∀ j v, cs[j]? = some v → w.cell? (a.add j) = some v) (hc : ∀ j, j < cs.length → (w.cell? ⟨b, o + j, none⟩).isSome = true) (hf : ∀ j, j < cs.length → w.frozen? ⟨b, o + j, none⟩ = false) (h1 : ∀ v ∈ cs, v.oneCell' = true) :
    (Builtin.copy_ #[s, s] ty #[.slice (some ⟨b, o, none⟩) dLen dCap, .slice (some a) sLen sCap]).run P w = .ok (goInt n) (w.setCells b o cs) := by
  obtain ⟨i, z, hi, _, hs, _⟩ := k.inf
  have hld := run_loadCells_list (P := P) w a cs hsrc
  rw [hl] at hld
  have hst := run_storeCells_cells (P := P) b o cs 0 w (by simpa using hc) (by simpa using hf) h1
  simp [Builtin.copy_, run_underlying k.und, Builtin.lenOf, Builtin.firstCells, sizeOf, typeInfo, hi, hs, ← hn, hld, hst]
theorem run_copy0 (k : Kin P R s) (w : World) (ty : TypeId) (a : Addr) (dLen dCap : Nat) : (Builtin.copy_ #[s, s] ty #[.slice (some a) dLen dCap, .slice none 0 0]).run P w = .ok (goInt 0) w := by
  obtain ⟨i, z, hi, _⟩ := k.inf
  exact run_copy_nil P w s s ty R.t a dLen dCap k.und (by rw [hi]; rfl)
/-- .. at 'Oper.wp', where its run is known. -/
theorem wp_copyR (w : World) {o : Oper} {a : Act} {K : Act → World → Prop} {Q : Exit → Act → World → Prop} (d x : Operand) (ho : o.op = .call { callee := .builtin .copy, args := #[d, x], argTypes := #[s, s] }) (v u : Value) (hd : a.eval d = v) (hx : a.eval x = u) {v' : Value} {w' : World}
    (hr : ∀ ty, (Builtin.copy_ #[s, s] ty #[v, u]).run P w = .ok v' w') (h : K (a.put o.dst v') w') : Oper.wp P o a w K Q := by
  unfold Oper.wp execOp
  simp only [ho, resolve, invoke, builtin, Sem.run_bind, Sem.run_pure, Result.andThen_ok, List.map_toArray, List.map_cons, List.map_nil, hd, hx, hr]
  exact h
theorem list_copyR (w : World) {ops : Array Oper} {rest : List Oper} {o : Oper} {a : Act} {Q : Exit → Act → World → Prop} (hg : o.guard = none) (d x : Operand) (ho : o.op = .call { callee := .builtin .copy, args := #[d, x], argTypes := #[s, s] }) (v u : Value) (hd : a.eval d = v) (hx : a.eval x = u) {v' : Value} {w' : World}
    (hr : ∀ ty, (Builtin.copy_ #[s, s] ty #[v, u]).run P w = .ok v' w') (h : wpList P ops Q rest (a.put o.dst v') w') : wpList P ops Q (o :: rest) a w :=
  wpList_plain hg fun _ hK => wp_copyR w d x ho v u hd hx hr (hK _ _ h)
theorem step_copyR {ops : Array Oper} {o : Oper} {a : Act} {w : World} {K : Act → World → Prop} {Q : Exit → Act → World → Prop} {E : Prop} (hg : o.guard = none) (d x : Operand) (ho : o.op = .call { callee := .builtin .copy, args := #[d, x], argTypes := #[s, s] }) (v u : Value) (hd : a.eval d = v) (hx : a.eval x = u) {v' : Value} {w' : World}
    (hr : ∀ ty, (Builtin.copy_ #[s, s] ty #[v, u]).run P w = .ok v' w') (hK : K (a.put o.dst v') w') : if Region.wanted o (yielded ops a.tmps) = true then Oper.wp P o a w K Q else E := by
  rw [if_pos (show Region.wanted o (yielded ops a.tmps) = true by simp [Region.wanted, hg])]
  exact wp_copyR w d x ho v u hd hx hr hK

/-- 'clear(s)' of n records: their cells are written, with whatever it be. -/
theorem run_clearR (k : Kin P R s) (hone : ∀ i z, P.info? R.t = some i → i.zero = some z → ∀ u ∈ z.cells, u.oneCell' = true) (w : World) (b o n c : Nat) (hc : ∀ j, j < n * R.n → (w.cell? ⟨b, o + j, none⟩).isSome = true) (hf : ∀ j, w.frozen? ⟨b, j, none⟩ = false) :
    ∃ vs : List Value, vs.length = n * R.n ∧ ∀ ty, (Builtin.clear_ #[s] ty #[.slice (some ⟨b, o, none⟩) n c]).run P w = .ok (.tuple #[]) (w.setCells b o vs) := by
  obtain ⟨i, z, hi, hz0, hz1, hz2, hzs⟩ := k.inf
  cases n with
  | zero =>
    refine ⟨[], by simp, fun ty => ?_⟩
    simp [Builtin.clear_, run_underlying k.und, World.setCells]
  | succ m =>
    have hl : (Builtin.zeroCells z.cells (m + 1)).toList.length = (m + 1) * R.n := by simp [Builtin.zeroCells, hzs]
    have h1 : ∀ u ∈ (Builtin.zeroCells z.cells (m + 1)).toList, u.oneCell' = true := by
      intro u hu
      simp only [Builtin.zeroCells, Array.toList_map, List.mem_map] at hu
      obtain ⟨j, _, rfl⟩ := hu
      have hj : j % z.cells.size < z.cells.size := Nat.mod_lt _ (by rw [hzs]; exact R.npos)
      apply hone i z hi hz0
      rw [Array.getElem!_eq_getD, Array.getD_eq_getD_getElem?, Array.getElem?_eq_getElem hj, Option.getD_some]
      exact Array.getElem_mem hj
    have hst := run_storeCells_cells (P := P) b o (Builtin.zeroCells z.cells (m + 1)).toList 0 w (by rw [hl]; simpa using hc) (by intro j _; exact hf _) h1
    simp only [Nat.add_zero] at hst
    refine ⟨_, hl, fun ty => ?_⟩
    simp [Builtin.clear_, run_underlying k.und, zeroValue, typeInfo, hi, hz0, hst]

/-- 'append(s[:i], make(S, k)...)' of a row with no room: a new row of what stood there, and whatever it be behind. -/
theorem run_zerosR (k : Kin P R s) (tn : TypeId) (hn : P.underlying tn = some (.int .i64)) (w : World) (g i c m : Nat) (l : List α) (hl : l.length = i) (hm : 0 < m) (hc : c < i + m) (hb : (i + m) * R.bytes ≤ 140737488355328) (hlen : i + m ≤ maxLen)
    (hcell : ∀ (j : Nat) (u : Value), (R.all l)[j]? = some u → w.cell? ⟨g, j, none⟩ = some u) :
    ∃ (G : Nat) (cur : Array Value), i + m ≤ G ∧ G ≤ maxLen ∧ cur.size = G * R.n ∧ (∀ (j : Nat) (u : Value), (R.all l)[j]? = some u → cur[j]? = some u) ∧
      ∀ ty, (Builtin.append_ #[s, tn] ty #[.slice (some ⟨g, 0, none⟩) i c, .int .i64 m]).run P w = .ok (.slice (some ⟨w.heap.size, 0, none⟩) (i + m) G) (w.drew.alloc (.cells cur R.t (0, 0))) := by
  obtain ⟨i0, z, hi, hz0, hz1, hz2, hzs⟩ := k.inf
  have hold : (Builtin.firstCells i0.size i (.slice (some ⟨g, 0, none⟩) i c)).run P w.drew = .ok (R.all l).toArray w.drew :=
    run_firstCells_some w.drew i0.size i ⟨g, 0, none⟩ i c (R.all l) (by rw [R.all_len, hl, hz1]) (fun j v hj => by
      rw [Addr.add_lit, Nat.zero_add]
      exact hcell j v hj)
  refine ⟨grownCap w (i + m) c R.t, (R.all l).toArray ++ Builtin.zeroCells z.cells m ++ Builtin.zeroCells z.cells (grownCap w (i + m) c R.t - (i + m)), grownCap_ge w _ _ _, grownCap_le_maxLen w (i + m) c R.t hlen, ?_, ?_, fun ty => ?_⟩
  · have := grownCap_ge w (i + m) c R.t
    simp only [Array.size_append, List.size_toArray, R.all_len, hl, Builtin.zeroCells, Array.size_map, Array.size_range, hzs]
    rw [← Nat.add_mul, ← Nat.add_mul]
    congr 1
    omega
  · intro j u hj
    have hlt := (List.getElem?_eq_some_iff.1 hj).1
    rw [Array.append_assoc, Array.getElem?_append_left (by simpa using hlt)]
    simpa using hj
  · have hb' : m * R.bytes ≤ 281474976710656 := by
      have : m * R.bytes ≤ (i + m) * R.bytes := Nat.mul_le_mul_right _ (by omega)
      omega
    exact Lib.run_append_grow_zeros w s tn ty R.t i0 z .i64 .i64 k.und hn hi hz0 (some ⟨g, 0, none⟩) i c (R.all l) hold m hm (by rw [hz1]; exact R.npos) hc (by unfold maxLen at hlen; omega) (by rw [hz2]; exact hb') (by rw [hz2]; exact growslice_fits hc hb)
end

/-- Records written into a block from the i-th place on. -/
theorem wrs_at {α : Type} (R : Rec α) (cur : Array Value) (i c : Nat) (M : List α) (hs : cur.size = c * R.n) (hi : i + M.length ≤ c) (k j : Nat) (hj : j < R.n) :
    (wrs cur (i * R.n) (R.all M))[k * R.n + j]? = if i ≤ k ∧ k < i + M.length then (R.cells (M.getD (k - i) R.zero))[j]? else cur[k * R.n + j]? := by
  have hall := R.all_len M
  have hfit : (i + M.length) * R.n ≤ c * R.n := Nat.mul_le_mul_right _ hi
  rw [Nat.add_mul] at hfit
  by_cases h : i ≤ k ∧ k < i + M.length
  · rw [if_pos h]
    obtain ⟨d, rfl⟩ : ∃ d, k = i + d := ⟨k - i, by omega⟩
    have hd : (d + 1) * R.n ≤ M.length * R.n := Nat.mul_le_mul_right _ (by omega)
    rw [Nat.add_mul] at hd
    rw [Nat.add_mul, Nat.add_assoc, wrs_in (R.all M) cur (i * R.n) (d * R.n + j) (by rw [hall]; omega) (by rw [hall, hs]; omega), R.all_at M d j (by omega) hj, show i + d - i = d by omega]
  · rw [if_neg h]
    apply wrs_out
    rw [hall]
    rcases Nat.lt_or_ge k i with c1 | c1
    · left
      have : (k + 1) * R.n ≤ i * R.n := Nat.mul_le_mul_right _ c1
      rw [Nat.add_mul] at this
      omega
    · right
      have : (i + M.length) * R.n ≤ k * R.n := Nat.mul_le_mul_right _ (by omega)
      rw [Nat.add_mul] at this
      omega
end Go.Proofs.YtmmbfgkfidconaaDoor
/- Blocks of powers of two, lists of them that are told by what they cover. No word of the program. -/
namespace Go.Proofs.YtmmbfgkfidconaaDoor

abbrev Bk := Nat × Nat
/-- Where a block ends. -/
def bend (b : Bk) : Nat := b.1 + 2 ^ b.2
def inB (b : Bk) (x : Nat) : Prop := b.1 ≤ x ∧ x < bend b
def cov (L : List Bk) (x : Nat) : Prop := ∃ b ∈ L, inB b x
def alB (b : Bk) : Prop := b.2 ≤ 5 ∧ 2 ^ b.2 ∣ b.1
theorem bend_pos (b : Bk) : b.1 < bend b := by unfold bend; have := Nat.two_pow_pos b.2; omega

theorem cov_cons {a : Bk} {L : List Bk} {x : Nat} : cov (a :: L) x ↔ inB a x ∨ cov L x := by simp [cov]
theorem cov_append {L M : List Bk} {x : Nat} : cov (L ++ M) x ↔ cov L x ∨ cov M x := by
  simp only [cov, List.mem_append]
  constructor
  · rintro ⟨b, h | h, hb⟩
    · exact Or.inl ⟨b, h, hb⟩
    · exact Or.inr ⟨b, h, hb⟩
  · rintro (⟨b, h, hb⟩ | ⟨b, h, hb⟩)
    · exact ⟨b, Or.inl h, hb⟩
    · exact ⟨b, Or.inr h, hb⟩
theorem cov_nil {x : Nat} : ¬ cov [] x := by simp [cov]

theorem mul_le_of {m i j : Nat} (h : m * i < m * j + m) : i ≤ j := by
  have h' : m * i < m * (j + 1) := by rw [Nat.mul_add]; omega
  have := Nat.lt_of_mul_lt_mul_left h'
  omega
theorem mul_lt_of {m i j : Nat} (h : m * i < m * j) : i + 1 ≤ j := Nat.lt_of_mul_lt_mul_left h
/-- Two aligned blocks that meet: the one lies in the other. -/
theorem nest {a b : Bk} (ha : 2 ^ a.2 ∣ a.1) (hb : 2 ^ b.2 ∣ b.1) (h : a.2 ≤ b.2) {x : Nat} (h1 : inB a x) (h2 : inB b x) : b.1 ≤ a.1 ∧ bend a ≤ bend b := by
  obtain ⟨a1, o⟩ := a
  obtain ⟨b1, p⟩ := b
  simp only [inB, bend] at *
  obtain ⟨d, rfl⟩ : ∃ d, p = o + d := ⟨p - o, by omega⟩
  obtain ⟨i, hi⟩ := ha
  obtain ⟨j, hj⟩ := hb
  rw [Nat.pow_add] at *
  generalize 2 ^ o = m at *
  generalize 2 ^ d = n at *
  rw [Nat.mul_assoc] at hj
  have k1 : n * j ≤ i := mul_le_of (m := m) (by omega)
  have k2 : i + 1 ≤ n * j + n := mul_lt_of (m := m) (by rw [Nat.mul_add]; omega)
  have k3 := Nat.mul_le_mul_left m k1
  have k4 := Nat.mul_le_mul_left m k2
  rw [Nat.mul_add, Nat.mul_add] at k4
  omega

/-- A list of blocks: aligned, by rising frames, none meeting another one; no left half whose other half is covered. -/
structure Good (L : List Bk) : Prop where
  al : ∀ b ∈ L, alB b
  sorted : L.Pairwise fun a b => bend a ≤ b.1
  left : ∀ b ∈ L, b.2 < 5 → 2 ^ (b.2 + 1) ∣ b.1 → ∃ x, b.1 ≤ x ∧ x < b.1 + 2 ^ (b.2 + 1) ∧ ¬ cov L x

theorem Good.nil : Good [] := ⟨by simp, List.Pairwise.nil, by simp⟩
theorem cov_sub {L M : List Bk} (h : L.Sublist M) {x : Nat} (hc : cov L x) : cov M x := by
  obtain ⟨b, hb, hx⟩ := hc
  exact ⟨b, h.subset hb, hx⟩
theorem Good.sub {L M : List Bk} (g : Good M) (h : L.Sublist M) : Good L :=
  ⟨fun b hb => g.al b (h.subset hb), g.sorted.sublist h, fun b hb h5 hd => by
    obtain ⟨x, h1, h2, h3⟩ := g.left b (h.subset hb) h5 hd
    exact ⟨x, h1, h2, fun hc => h3 (cov_sub h hc)⟩⟩

/-- A block that is covered lies in one of them. -/
theorem Good.within {L : List Bk} (g : Good L) {c : Bk} (hc : 2 ^ c.2 ∣ c.1) (hk : c.2 ≤ 5) (h : ∀ x, inB c x → cov L x) : ∃ b ∈ L, b.1 ≤ c.1 ∧ bend c ≤ bend b ∧ c.2 ≤ b.2 := by
  have h0 : inB c c.1 := ⟨Nat.le_refl _, bend_pos c⟩
  obtain ⟨b, hb, hx⟩ := h c.1 h0
  refine ⟨b, hb, ?_⟩
  rcases Nat.lt_or_ge b.2 c.2 with h1 | h1
  · exfalso
    have hn := nest (g.al b hb).2 hc (by omega) hx h0
    have e : b.1 = c.1 := by have := hx.1; omega
    have hd : 2 ^ (b.2 + 1) ∣ b.1 := by
      rw [e]
      exact Nat.dvd_trans (Nat.pow_dvd_pow 2 (by omega)) hc
    obtain ⟨x, x1, x2, x3⟩ := g.left b hb (by omega) hd
    have hp : 2 ^ (b.2 + 1) ≤ 2 ^ c.2 := Nat.pow_le_pow_right (by omega) (by omega)
    exact x3 (h x ⟨by omega, by unfold bend; omega⟩)
  · have hn := nest hc (g.al b hb).2 h1 h0 hx
    exact ⟨hn.1, hn.2, h1⟩

theorem Good.head_le {a : Bk} {L : List Bk} (g : Good (a :: L)) {x : Nat} (h : cov (a :: L) x) : a.1 ≤ x := by
  rcases cov_cons.1 h with h | ⟨b, hb, hx⟩
  · exact h.1
  · have := (List.pairwise_cons.1 g.sorted).1 b hb
    have := bend_pos a
    have := hx.1
    omega
theorem Good.head_ge {a b : Bk} {L M : List Bk} (g : Good (a :: L)) (g' : Good (b :: M)) (h : ∀ x, cov (a :: L) x ↔ cov (b :: M) x) (e : a.1 = b.1) : b.2 ≤ a.2 := by
  rcases Nat.lt_or_ge a.2 b.2 with h1 | h1
  · exfalso
    have hb5 := (g'.al b (by simp)).1
    have hd : 2 ^ (a.2 + 1) ∣ a.1 := by
      rw [e]
      exact Nat.dvd_trans (Nat.pow_dvd_pow 2 (by omega)) (g'.al b (by simp)).2
    obtain ⟨x, x1, x2, x3⟩ := g.left a (by simp) (by omega) hd
    have hp : 2 ^ (a.2 + 1) ≤ 2 ^ b.2 := Nat.pow_le_pow_right (by omega) (by omega)
    exact x3 ((h x).2 (cov_cons.2 (Or.inl ⟨by omega, by unfold bend; omega⟩)))
  · exact h1
/-- What they cover tells all. -/
theorem Good.unique : ∀ {L M : List Bk}, Good L → Good M → (∀ x, cov L x ↔ cov M x) → L = M
  | [], [], _, _, _ => rfl
  | [], b :: M, _, _, h => by
    have := (h b.1).2 (cov_cons.2 (Or.inl ⟨Nat.le_refl _, bend_pos b⟩))
    exact absurd this cov_nil
  | a :: L, [], _, _, h => by
    have := (h a.1).1 (cov_cons.2 (Or.inl ⟨Nat.le_refl _, bend_pos a⟩))
    exact absurd this cov_nil
  | a :: L, b :: M, g, g', h => by
    have h1 := g.head_le ((h b.1).2 (cov_cons.2 (Or.inl ⟨Nat.le_refl _, bend_pos b⟩)))
    have h2 := g'.head_le ((h a.1).1 (cov_cons.2 (Or.inl ⟨Nat.le_refl _, bend_pos a⟩)))
    have e : a.1 = b.1 := by omega
    have h3 := g.head_ge g' h e
    have h4 := g'.head_ge g (fun x => (h x).symm) e.symm
    have e2 : a = b := Prod.ext e (by omega)
    subst e2
    rw [Good.unique (g.sub (List.sublist_cons_self _ _)) (g'.sub (List.sublist_cons_self _ _)) fun x => ?_]
    have hx := h x
    rw [cov_cons, cov_cons] at hx
    have n1 : cov L x → ¬ inB a x := by
      rintro ⟨b, hb, hx1⟩ hx2
      have := (List.pairwise_cons.1 g.sorted).1 b hb
      have := hx1.1
      have := hx2.2
      omega
    have n2 : cov M x → ¬ inB a x := by
      rintro ⟨b, hb, hx1⟩ hx2
      have := (List.pairwise_cons.1 g'.sorted).1 b hb
      have := hx1.1
      have := hx2.2
      omega
    constructor
    · intro h
      rcases hx.1 (Or.inr h) with h' | h'
      · exact absurd h' (n1 h)
      · exact h'
    · intro h
      rcases hx.2 (Or.inr h) with h' | h'
      · exact absurd h' (n2 h)
      · exact h'

/-- Blocks from f on up to t, each as great as can be, up to T. -/
structure Cvr (f t T : Nat) (l : List Bk) : Prop where
  al : ∀ b ∈ l, alB b ∧ f ≤ b.1 ∧ bend b ≤ t
  sorted : l.Pairwise fun a b => bend a ≤ b.1
  all : ∀ x, f ≤ x → x < t → cov l x
  great : ∀ b ∈ l, b.2 < 5 → 2 ^ (b.2 + 1) ∣ b.1 → T < b.1 + 2 ^ (b.2 + 1)
theorem Cvr.iff {f t T : Nat} {l : List Bk} (h : Cvr f t T l) (x : Nat) : cov l x ↔ f ≤ x ∧ x < t := by
  constructor
  · rintro ⟨b, hb, h1, h2⟩
    have := h.al b hb
    omega
  · rintro ⟨h1, h2⟩
    exact h.all x h1 h2
theorem Cvr.nil (f T : Nat) : Cvr f f T [] := ⟨by simp, List.Pairwise.nil, fun x h1 h2 => by omega, by simp⟩
theorem Cvr.app {f m t T : Nat} {l k : List Bk} (h : Cvr f m T l) (h' : Cvr m t T k) (h1 : f ≤ m) (h2 : m ≤ t) : Cvr f t T (l ++ k) := by
  refine ⟨fun b hb => ?_, ?_, fun x hx1 hx2 => ?_, fun b hb => ?_⟩
  · rcases List.mem_append.1 hb with hb | hb
    · have := h.al b hb; exact ⟨this.1, by omega, by omega⟩
    · have := h'.al b hb; exact ⟨this.1, by omega, by omega⟩
  · rw [List.pairwise_append]
    refine ⟨h.sorted, h'.sorted, fun a ha b hb => ?_⟩
    have := h.al a ha
    have := h'.al b hb
    omega
  · rw [cov_append]
    rcases Nat.lt_or_ge x m with c | c
    · exact Or.inl (h.all x hx1 c)
    · exact Or.inr (h'.all x c hx2)
  · rcases List.mem_append.1 hb with hb | hb
    · exact h.great b hb
    · exact h'.great b hb
theorem Cvr.one {f o T : Nat} (h5 : o ≤ 5) (hd : 2 ^ o ∣ f) (hg : o < 5 → 2 ^ (o + 1) ∣ f → T < f + 2 ^ (o + 1)) : Cvr f (f + 2 ^ o) T [(f, o)] := by
  refine ⟨fun b hb => ?_, List.pairwise_singleton _ _, fun x h1 h2 => ⟨(f, o), by simp, h1, h2⟩, fun b hb => ?_⟩
  · obtain rfl := List.mem_singleton.1 hb
    exact ⟨⟨h5, hd⟩, Nat.le_refl _, Nat.le_refl _⟩
  · obtain rfl := List.mem_singleton.1 hb
    exact hg
/-- Those of all frames. -/
theorem Cvr.good {n : Nat} {l : List Bk} (h : Cvr 0 n n l) : Good l := by
  refine ⟨fun b hb => (h.al b hb).1, h.sorted, fun b hb h5 hd => ⟨n, ?_, h.great b hb h5 hd, fun hc => ?_⟩⟩
  · have := (h.al b hb).2.2
    have := bend_pos b
    omega
  · have := (h.iff n).1 hc
    omega

/-- A piece is carved out of one. -/
theorem Good.carve {A C l k : List Bk} {b p : Bk} (g : Good (A ++ b :: C)) (h1 : b.1 ≤ p.1) (h2 : bend p ≤ bend b) (hl : Cvr b.1 p.1 p.1 l) (hk : Cvr (bend p) (bend b) (bend b) k) :
    Good (A ++ ((l ++ k) ++ C)) ∧ ∀ x, cov (A ++ ((l ++ k) ++ C)) x ↔ cov (A ++ b :: C) x ∧ ¬ inB p x := by
  have hs := g.sorted
  rw [List.pairwise_append, List.pairwise_cons] at hs
  obtain ⟨s1, ⟨s2, s3⟩, s4⟩ := hs
  have hb := g.al b (by simp)
  have hpp := bend_pos p
  have hc : ∀ x, cov (A ++ ((l ++ k) ++ C)) x ↔ cov (A ++ b :: C) x ∧ ¬ inB p x := by
    intro x
    rw [cov_append, cov_append, cov_append, cov_append, cov_cons, hl.iff, hk.iff]
    have na : cov A x → ¬ inB p x := by
      rintro ⟨a, ha, hx⟩ hx2
      have := s4 a ha b (by simp)
      have := hx.2
      have := hx2.1
      omega
    have nc : cov C x → ¬ inB p x := by
      rintro ⟨c, hc, hx⟩ hx2
      have := s2 c hc
      have := hx.1
      have := hx2.2
      omega
    constructor
    · rintro (h | ((h | h) | h))
      · exact ⟨Or.inl h, na h⟩
      · exact ⟨Or.inr (Or.inl ⟨by omega, by omega⟩), fun hx => by have := hx.1; omega⟩
      · exact ⟨Or.inr (Or.inl ⟨by omega, by omega⟩), fun hx => by have := hx.2; omega⟩
      · exact ⟨Or.inr (Or.inr h), nc h⟩
    · rintro ⟨h | h | h, hn⟩
      · exact Or.inl h
      · refine Or.inr (Or.inl ?_)
        rcases Nat.lt_or_ge x p.1 with c | c
        · exact Or.inl ⟨h.1, c⟩
        · rcases Nat.lt_or_ge x (bend p) with c' | c'
          · exact absurd ⟨c, c'⟩ hn
          · exact Or.inr ⟨c', h.2⟩
      · exact Or.inr (Or.inr h)
  refine ⟨⟨fun y hy => ?_, ?_, fun y hy h5 hd => ?_⟩, hc⟩
  · rcases List.mem_append.1 hy with hy | hy
    · exact g.al y (by simp [hy])
    · rcases List.mem_append.1 hy with hy | hy
      · rcases List.mem_append.1 hy with hy | hy
        · exact (hl.al y hy).1
        · exact (hk.al y hy).1
      · exact g.al y (by simp [hy])
  · rw [List.pairwise_append, List.pairwise_append, List.pairwise_append]
    refine ⟨s1, ⟨⟨hl.sorted, hk.sorted, fun a ha c hc => ?_⟩, s3, fun a ha c hc => ?_⟩, fun a ha c hc => ?_⟩
    · have := hl.al a ha
      have := hk.al c hc
      omega
    · have h := s2 c hc
      rcases List.mem_append.1 ha with ha | ha
      · have := hl.al a ha; omega
      · have := hk.al a ha; omega
    · have hab := s4 a ha b (by simp)
      rcases List.mem_append.1 hc with hc | hc
      · rcases List.mem_append.1 hc with hc | hc
        · have := hl.al c hc; omega
        · have := hk.al c hc; omega
      · exact s4 a ha c (by simp [hc])
  · have old : y ∈ A ++ b :: C → ∃ x, y.1 ≤ x ∧ x < y.1 + 2 ^ (y.2 + 1) ∧ ¬ cov (A ++ ((l ++ k) ++ C)) x := fun hy => by
      obtain ⟨x, x1, x2, x3⟩ := g.left y hy h5 hd
      exact ⟨x, x1, x2, fun h => x3 ((hc x).1 h).1⟩
    rcases List.mem_append.1 hy with hy | hy
    · exact old (by simp [hy])
    · rcases List.mem_append.1 hy with hy | hy
      · rcases List.mem_append.1 hy with hy | hy
        · have h := hl.great y hy h5 hd
          have := hl.al y hy
          have := bend_pos y
          exact ⟨p.1, by omega, by omega, fun h => ((hc _).1 h).2 ⟨Nat.le_refl _, hpp⟩⟩
        · exfalso
          have h := hk.great y hy h5 hd
          have ha := hk.al y hy
          have hyb := bend_pos y
          rcases Nat.lt_or_ge y.2 b.2 with c | c
          · have d1 : 2 ^ (y.2 + 1) ∣ bend b := by
              have d2 : 2 ^ (y.2 + 1) ∣ 2 ^ b.2 := Nat.pow_dvd_pow 2 (by omega)
              exact Nat.dvd_add (Nat.dvd_trans d2 hb.2) d2
            obtain ⟨i, hi⟩ := hd
            obtain ⟨j, hj⟩ := d1
            have k1 : j ≤ i := mul_le_of (m := 2 ^ (y.2 + 1)) (by omega)
            have k3 : i + 1 ≤ j := mul_lt_of (m := 2 ^ (y.2 + 1)) (by omega)
            omega
          · have hp2 : 2 ^ b.2 ≤ 2 ^ y.2 := Nat.pow_le_pow_right (by omega) c
            have e1 : bend b = b.1 + 2 ^ b.2 := rfl
            have e2 : bend y = y.1 + 2 ^ y.2 := rfl
            omega
      · exact old (by simp [hy])
end Go.Proofs.YtmmbfgkfidconaaDoor
/- Blocks of powers of two: given back, joined with their buddies; where one is found; how many frames. No word of the program. -/
namespace Go.Proofs.YtmmbfgkfidconaaDoor

/-- The other half. -/
def bud (b : Bk) : Bk := (b.1 ^^^ 2 ^ b.2, b.2)
theorem bud_even {b : Bk} (h : 2 ^ (b.2 + 1) ∣ b.1) : bud b = (b.1 + 2 ^ b.2, b.2) := by
  obtain ⟨f, o⟩ := b
  simp only [bud, Prod.mk.injEq, and_true] at *
  obtain ⟨i, rfl⟩ := h
  have h1 : 2 ^ (o + 1) * i + 2 ^ o = 2 ^ (o + 1) * i ||| 2 ^ o := (Nat.two_pow_add_eq_or_of_lt (b := 2 ^ o) (Nat.pow_lt_pow_right (by omega) (by omega)) i)
  rw [h1]
  apply Nat.eq_of_testBit_eq
  intro j
  rw [Nat.testBit_xor, Nat.testBit_or, Nat.testBit_two_pow]
  by_cases hj : o = j
  · subst hj
    have : (2 ^ (o + 1) * i).testBit o = false := by
      rw [Nat.testBit_two_pow_mul]
      simp
      omega
    simp [this]
  · simp [hj]
theorem bud_odd {b : Bk} (h : 2 ^ b.2 ∣ b.1) (hn : ¬ 2 ^ (b.2 + 1) ∣ b.1) : bud b = (b.1 - 2 ^ b.2, b.2) ∧ 2 ^ b.2 ≤ b.1 ∧ 2 ^ (b.2 + 1) ∣ b.1 - 2 ^ b.2 := by
  obtain ⟨f, o⟩ := b
  simp only at *
  have hd : 2 ^ o ≤ f ∧ 2 ^ (o + 1) ∣ f - 2 ^ o := by
    obtain ⟨i, rfl⟩ := h
    have hi : i % 2 = 1 := by
      rcases Nat.mod_two_eq_zero_or_one i with h0 | h0
      · exfalso
        apply hn
        obtain ⟨k, rfl⟩ : ∃ k, i = 2 * k := ⟨i / 2, by omega⟩
        exact ⟨k, by rw [Nat.pow_succ, Nat.mul_assoc]⟩
      · exact h0
    obtain ⟨k, rfl⟩ : ∃ k, i = 2 * k + 1 := ⟨i / 2, by omega⟩
    have e : 2 ^ o * (2 * k + 1) = 2 ^ (o + 1) * k + 2 ^ o := by rw [Nat.mul_add, Nat.pow_succ, Nat.mul_one, Nat.mul_assoc]
    rw [e]
    exact ⟨by omega, ⟨k, by omega⟩⟩
  refine ⟨?_, hd.1, hd.2⟩
  have h2 := bud_even (b := (f - 2 ^ o, o)) hd.2
  simp only [bud, Prod.mk.injEq, and_true] at h2 ⊢
  rw [show f - 2 ^ o + 2 ^ o = f by omega] at h2
  rw [← h2, Nat.xor_assoc, Nat.xor_self, Nat.xor_zero, h2]

/-- A block with its buddy. -/
def par (b : Bk) : Bk := (min b.1 (bud b).1, b.2 + 1)
theorem par_cases {b : Bk} (h : 2 ^ b.2 ∣ b.1) : (2 ^ (b.2 + 1) ∣ b.1 ∧ bud b = (b.1 + 2 ^ b.2, b.2) ∧ par b = (b.1, b.2 + 1)) ∨ (¬ 2 ^ (b.2 + 1) ∣ b.1 ∧ 2 ^ b.2 ≤ b.1 ∧ 2 ^ (b.2 + 1) ∣ b.1 - 2 ^ b.2 ∧ bud b = (b.1 - 2 ^ b.2, b.2) ∧ par b = (b.1 - 2 ^ b.2, b.2 + 1)) := by
  by_cases hd : 2 ^ (b.2 + 1) ∣ b.1
  · refine Or.inl ⟨hd, bud_even hd, ?_⟩
    unfold par
    rw [bud_even hd, Nat.min_eq_left (by simp)]
  · obtain ⟨h1, h2, h3⟩ := bud_odd h hd
    refine Or.inr ⟨hd, h2, h3, h1, ?_⟩
    unfold par
    rw [h1, Nat.min_eq_right (by simp)]
theorem par_al {b : Bk} (h : alB b) (h5 : b.2 < 5) : alB (par b) := by
  rcases par_cases h.2 with ⟨h1, _, h2⟩ | ⟨_, _, h1, _, h2⟩
  · rw [h2]; exact ⟨h5, h1⟩
  · rw [h2]; exact ⟨h5, h1⟩
theorem bud_al {b : Bk} (h : alB b) : alB (bud b) := by
  rcases par_cases h.2 with ⟨_, h1, _⟩ | ⟨_, h3, h4, h1, _⟩
  · rw [h1]; exact ⟨h.1, Nat.dvd_add h.2 (Nat.dvd_refl _)⟩
  · rw [h1]; exact ⟨h.1, Nat.dvd_sub h.2 (Nat.dvd_refl _)⟩
theorem par_in {b : Bk} (h : 2 ^ b.2 ∣ b.1) (x : Nat) : inB (par b) x ↔ inB b x ∨ inB (bud b) x := by
  rcases par_cases h with ⟨_, h1, h2⟩ | ⟨_, h3, _, h1, h2⟩
  · rw [h1, h2]
    simp only [inB, bend, Nat.pow_succ]
    omega
  · rw [h1, h2]
    simp only [inB, bend, Nat.pow_succ]
    omega
theorem bud_apart {b : Bk} (h : 2 ^ b.2 ∣ b.1) (x : Nat) : inB b x → ¬ inB (bud b) x := by
  rcases par_cases h with ⟨_, h1, _⟩ | ⟨_, h3, _, h1, _⟩
  · rw [h1]; simp only [inB, bend]; omega
  · rw [h1]; simp only [inB, bend]; omega

/-- A block that is given back, joined as far as it goes, is put where it belongs. -/
theorem Good.insert {A C : List Bk} {b : Bk} (g : Good (A ++ C)) (hb : alB b) (ha : ∀ a ∈ A, bend a ≤ b.1) (hc : ∀ c ∈ C, bend b ≤ c.1) (hj : b.2 < 5 → bud b ∉ A ++ C) : Good (A ++ b :: C) := by
  have cv : ∀ x, cov (A ++ b :: C) x ↔ inB b x ∨ cov (A ++ C) x := by
    intro x
    rw [cov_append, cov_cons, cov_append]
    constructor
    · rintro (h | h | h)
      · exact Or.inr (Or.inl h)
      · exact Or.inl h
      · exact Or.inr (Or.inr h)
    · rintro (h | h | h)
      · exact Or.inr (Or.inl h)
      · exact Or.inl h
      · exact Or.inr (Or.inr h)
  have apart : ∀ x, inB b x → ¬ cov (A ++ C) x := by
    rintro x hx ⟨y, hy, hxy⟩
    rcases List.mem_append.1 hy with hy | hy
    · have := ha y hy; have := hx.1; have := hxy.2; omega
    · have := hc y hy; have := hx.2; have := hxy.1; omega
  have nobud : b.2 < 5 → ∃ x, inB (bud b) x ∧ ¬ cov (A ++ b :: C) x := by
    intro h5
    by_cases h : ∀ x, inB (bud b) x → cov (A ++ C) x
    · exfalso
      obtain ⟨y, hy, h1, h2, h3⟩ := g.within (bud_al hb).2 (bud_al hb).1 h
      have h3' : b.2 ≤ y.2 := h3
      rcases Nat.lt_or_ge b.2 y.2 with c | c
      · have hal := g.al y hy
        have hin : inB (bud b) (bud b).1 := ⟨Nat.le_refl _, bend_pos _⟩
        have hpy : inB (par b) (bud b).1 := (par_in hb.2 _).2 (Or.inr hin)
        have hn := nest (a := par b) (b := y) (par_al hb h5).2 hal.2 c hpy ⟨h1, by have := bend_pos (bud b); omega⟩
        have hbb : inB (par b) b.1 := (par_in hb.2 _).2 (Or.inl ⟨Nat.le_refl _, bend_pos b⟩)
        exact apart b.1 ⟨Nat.le_refl _, bend_pos b⟩ ⟨y, hy, by have := hbb.1; omega, by have := hbb.2; omega⟩
      · have e2 : y.2 = (bud b).2 := by show y.2 = b.2; omega
        have e1 : y.1 = (bud b).1 := by
          unfold bend at h2
          rw [e2] at h2
          omega
        exact hj h5 (by rw [← Prod.ext e1 e2]; exact hy)
    · have ⟨x, hx⟩ := Classical.not_forall.1 h
      have ⟨h1, h2⟩ := Classical.not_imp.1 hx
      exact ⟨x, h1, fun h => ((cv x).1 h).elim (fun h' => bud_apart hb.2 x h' h1) h2⟩
  refine ⟨fun y hy => ?_, ?_, fun y hy h5 hd => ?_⟩
  · rcases List.mem_append.1 hy with hy | hy
    · exact g.al y (by simp [hy])
    · rcases List.mem_cons.1 hy with rfl | hy
      · exact hb
      · exact g.al y (by simp [hy])
  · have hs := g.sorted
    rw [List.pairwise_append] at hs ⊢
    refine ⟨hs.1, List.pairwise_cons.2 ⟨hc, hs.2.1⟩, fun a h1 c h2 => ?_⟩
    rcases List.mem_cons.1 h2 with rfl | h2
    · exact ha a h1
    · exact hs.2.2 a h1 c h2
  · by_cases hyb : y = b
    · subst hyb
      obtain ⟨x, h1, h2⟩ := nobud h5
      have hx := (par_in hb.2 x).2 (Or.inr h1)
      rcases par_cases hb.2 with ⟨_, _, e⟩ | ⟨hn, _⟩
      · rw [e] at hx
        exact ⟨x, hx.1, hx.2, h2⟩
      · exact absurd hd hn
    · have hy' : y ∈ A ++ C := by
        rcases List.mem_append.1 hy with h | h
        · simp [h]
        · rcases List.mem_cons.1 h with h | h
          · exact absurd h hyb
          · simp [h]
      obtain ⟨z, z1, z2, z3⟩ := g.left y hy' h5 hd
      by_cases hzb : inB b z
      · have hal := g.al y hy'
        have ey := bud_even hd
        -- z lies in y's other half
        have hzy : inB (bud y) z := by
          have hnz : ¬ inB y z := fun h => z3 ⟨y, hy', h⟩
          rw [ey]
          simp only [inB, bend, Nat.pow_succ] at *
          omega
        rcases Nat.lt_or_ge y.2 b.2 with c | c
        · exfalso
          have hn := nest (a := par y) (b := b) (par_al hal h5).2 hb.2 c ((par_in hal.2 z).2 (Or.inr hzy)) hzb
          have hyy : inB (par y) y.1 := (par_in hal.2 _).2 (Or.inl ⟨Nat.le_refl _, bend_pos y⟩)
          exact apart y.1 ⟨by have := hyy.1; omega, by have := hyy.2; omega⟩ ⟨y, hy', Nat.le_refl _, bend_pos y⟩
        · rcases Nat.lt_or_ge b.2 y.2 with c' | c'
          · obtain ⟨x, x1, x2⟩ := nobud (by omega)
            have hx := (par_in hb.2 x).2 (Or.inr x1)
            have hn := nest (a := par b) (b := bud y) (par_al hb (by omega)).2 (bud_al hal).2 c' ((par_in hb.2 z).2 (Or.inl hzb)) hzy
            refine ⟨x, ?_, ?_, x2⟩
            · have := hx.1
              rw [ey] at hn
              have := hn.1
              simp only at this
              omega
            · have := hx.2
              rw [ey] at hn
              have := hn.2
              simp only [bend, Nat.pow_succ] at *
              omega
          · exfalso
            have e2 : b.2 = y.2 := by omega
            have hn := nest (a := b) (b := bud y) hb.2 (bud_al hal).2 (by show b.2 ≤ y.2; omega) hzb hzy
            have e1 : b.1 = (bud y).1 := by
              have h2 := hn.2
              unfold bend at h2
              rw [show (bud y).2 = y.2 from rfl, e2] at h2
              omega
            have hbb : bud b = y := by
              have e : b = bud y := Prod.ext e1 e2
              rw [e]
              simp [bud, Nat.xor_assoc]
            exact hj (by omega) (by rw [hbb]; exact hy')
      · exact ⟨z, z1, z2, fun h => ((cv z).1 h).elim hzb z3⟩
/-- What is put covers more. -/
theorem cov_insert {A C : List Bk} {b : Bk} (x : Nat) : cov (A ++ b :: C) x ↔ cov (A ++ C) x ∨ inB b x := by
  rw [cov_append, cov_cons, cov_append]
  constructor
  · rintro (h | h | h)
    · exact Or.inl (Or.inl h)
    · exact Or.inr h
    · exact Or.inl (Or.inr h)
  · rintro ((h | h) | h)
    · exact Or.inl h
    · exact Or.inr (Or.inr h)
    · exact Or.inr (Or.inl h)

/-- The number of the first that ends behind x. -/
def behind : List Bk → Nat → Nat
  | [], _ => 0
  | b :: L, x => if x < bend b then 0 else behind L x + 1
theorem behind_le : ∀ (L : List Bk) (x : Nat), behind L x ≤ L.length
  | [], _ => Nat.le_refl _
  | b :: L, x => by
    have := behind_le L x
    simp only [behind, List.length_cons]
    split <;> omega
theorem behind_split : ∀ (L : List Bk) (x : Nat), (∀ a ∈ L.take (behind L x), bend a ≤ x) ∧ (∀ b, L[behind L x]? = some b → x < bend b)
  | [], _ => by simp [behind]
  | b :: L, x => by
    have ih := behind_split L x
    simp only [behind]
    split
    · rename_i h
      simpa using h
    · rename_i h
      refine ⟨?_, by simpa using ih.2⟩
      simp only [List.take_succ_cons, List.mem_cons]
      rintro a (rfl | ha)
      · omega
      · exact ih.1 a ha
/-- .. of a list by rising frames: all from there on do. -/
theorem behind_mono {L : List Bk} (h : L.Pairwise fun a b => bend a ≤ b.1) (x i : Nat) (b : Bk) (hb : L[i]? = some b) : x < bend b ↔ behind L x ≤ i := by
  induction L generalizing i with
  | nil => simp at hb
  | cons c L ih =>
    obtain ⟨h1, h2⟩ := List.pairwise_cons.1 h
    simp only [behind]
    cases i with
    | zero =>
      simp at hb
      subst hb
      split <;> simp <;> omega
    | succ i =>
      simp at hb
      have hi := ih h2 i hb
      split
      · rename_i hc
        have := h1 b (List.mem_of_getElem? hb)
        have := bend_pos b
        simp
        omega
      · rw [hi]
        omega
/-- Whether x is covered. -/
theorem Good.cov_iff {L : List Bk} (g : Good L) (x : Nat) : cov L x ↔ ∃ b, L[behind L x]? = some b ∧ b.1 ≤ x := by
  constructor
  · rintro ⟨b, hb, h1, h2⟩
    obtain ⟨i, hi⟩ := List.getElem?_of_mem hb
    have hm := (behind_mono g.sorted x i b hi).1 h2
    rcases Nat.lt_or_ge (behind L x) i with c | c
    · have hlt : behind L x < L.length := Nat.lt_trans c (List.getElem?_eq_some_iff.1 hi).1
      refine ⟨L[behind L x], List.getElem?_eq_getElem hlt, ?_⟩
      have := List.pairwise_iff_getElem.1 g.sorted _ _ hlt (List.getElem?_eq_some_iff.1 hi).1 c
      rw [(List.getElem?_eq_some_iff.1 hi).2] at this
      have := bend_pos L[behind L x]
      omega
    · have : behind L x = i := by omega
      rw [this]
      exact ⟨b, hi, h1⟩
  · rintro ⟨b, hb, h1⟩
    exact ⟨b, List.mem_of_getElem? hb, h1, (behind_split L x).2 b hb⟩
/-- Whether anything from f on up to t, t itself not, is covered. -/
theorem Good.meets_iff {L : List Bk} (g : Good L) (f t : Nat) (h : f < t) : (∃ x, f ≤ x ∧ x < t ∧ cov L x) ↔ ∃ b, L[behind L f]? = some b ∧ b.1 < t := by
  constructor
  · rintro ⟨x, h1, h2, b, hb, h3, h4⟩
    obtain ⟨i, hi⟩ := List.getElem?_of_mem hb
    have hm := (behind_mono g.sorted f i b hi).1 (by omega)
    rcases Nat.lt_or_ge (behind L f) i with c | c
    · have hlt : behind L f < L.length := Nat.lt_trans c (List.getElem?_eq_some_iff.1 hi).1
      refine ⟨L[behind L f], List.getElem?_eq_getElem hlt, ?_⟩
      have := List.pairwise_iff_getElem.1 g.sorted _ _ hlt (List.getElem?_eq_some_iff.1 hi).1 c
      rw [(List.getElem?_eq_some_iff.1 hi).2] at this
      have := bend_pos L[behind L f]
      omega
    · have : behind L f = i := by omega
      rw [this]
      exact ⟨b, hi, by omega⟩
  · rintro ⟨b, hb, h1⟩
    have h2 := (behind_split L f).2 b hb
    have h3 := bend_pos b
    refine ⟨max b.1 f, by omega, by omega, b, List.mem_of_getElem? hb, by omega, by omega⟩
/-- One of the list is found where it begins. -/
theorem Good.find_iff {L : List Bk} (g : Good L) (b : Bk) : b ∈ L ↔ L[behind L b.1]? = some b := by
  constructor
  · intro hb
    obtain ⟨c, hc, h1⟩ := (g.cov_iff b.1).1 ⟨b, hb, Nat.le_refl _, bend_pos b⟩
    obtain ⟨i, hi⟩ := List.getElem?_of_mem hb
    have hm := (behind_mono g.sorted b.1 i b hi).1 (bend_pos b)
    rcases Nat.lt_or_ge (behind L b.1) i with c' | c'
    · exfalso
      have hlt : behind L b.1 < L.length := Nat.lt_trans c' (List.getElem?_eq_some_iff.1 hi).1
      have h3 := List.pairwise_iff_getElem.1 g.sorted _ _ hlt (List.getElem?_eq_some_iff.1 hi).1 c'
      rw [(List.getElem?_eq_some_iff.1 hi).2] at h3
      have h4 := (behind_split L b.1).2 _ (List.getElem?_eq_getElem hlt)
      omega
    · have : behind L b.1 = i := by omega
      rw [this]
      exact hi
  · exact List.mem_of_getElem?
end Go.Proofs.YtmmbfgkfidconaaDoor
/- How runs are cut: their orders, and the list of them. No word of the program. -/
namespace Go.Proofs.YtmmbfgkfidconaaDoor
theorem ctz_dvd (f o : Nat) (h0 : 0 < f) (h : f < 2 ^ 64) : f % 2 ^ o = 0 ↔ o ≤ Lib.ctz 64 f := by
  obtain ⟨m, hm, _⟩ := Lib.ctzFrom_spec 64 f h0 h
  have e : Lib.ctz 64 f = Lib.ctzFrom 64 f := by simp [Lib.ctz, show f ≠ 0 from by omega]
  rw [e]
  generalize Lib.ctzFrom 64 f = c at *
  constructor
  · intro hd
    apply Nat.le_of_not_lt
    intro hlt
    obtain ⟨d, rfl⟩ : ∃ d, o = c + (d + 1) := ⟨o - c - 1, by omega⟩
    obtain ⟨q, hq⟩ := Nat.dvd_of_mod_eq_zero hd
    rw [hq, Nat.pow_add, Nat.mul_assoc] at hm
    have := Nat.eq_of_mul_eq_mul_left (Nat.two_pow_pos c) hm
    rw [Nat.pow_succ, Nat.mul_comm (2 ^ d) 2, Nat.mul_assoc] at this
    omega
  · intro hle
    apply Nat.mod_eq_zero_of_dvd
    rw [hm]
    exact Nat.dvd_trans (Nat.pow_dvd_pow 2 hle) (Nat.dvd_mul_right _ _)

theorem ctz_lt (f : Nat) (h0 : 0 < f) (h : f < 2 ^ 64) : Lib.ctz 64 f < 64 := (Lib.lowest_bit 64 f (by omega) h).2

theorem ctz_pow (k : Nat) (h : k < 64) : Lib.ctz 64 (2 ^ k) = k := by
  have h2 : 2 ^ k < 2 ^ 64 := Nat.pow_lt_pow_right (by decide) h
  have a := (ctz_dvd (2 ^ k) k (Nat.two_pow_pos k) h2).1 (Nat.mod_self _)
  have b : ¬ k + 1 ≤ Lib.ctz 64 (2 ^ k) := by
    rw [← ctz_dvd (2 ^ k) (k + 1) (Nat.two_pow_pos k) h2, Nat.mod_eq_of_lt (Nat.pow_lt_pow_right (by decide) (by omega))]
    have := Nat.two_pow_pos k
    omega
  omega

/-- n & (n - 1) is 0 just where n is a power of two. -/
theorem pow_of_and (n : Nat) (h0 : 0 < n) (h : n < 2 ^ 64) (ha : n &&& (n - 1) = 0) : n = 2 ^ Lib.ctz 64 n := by
  obtain ⟨m, hm, hc⟩ := Lib.ctzFrom_spec 64 n h0 h
  have e : Lib.ctz 64 n = Lib.ctzFrom 64 n := by simp [Lib.ctz, show n ≠ 0 from by omega]
  rw [e]
  generalize Lib.ctzFrom 64 n = c at *
  cases m with
  | zero => simpa using hm
  | succ m =>
    exfalso
    have hp := Nat.two_pow_pos c
    -- the bits above c of n and of n - 1 are those of m + 1
    have h1 : n / 2 ^ (c + 1) = m + 1 := by
      rw [hm, Nat.pow_succ, ← Nat.div_div_eq_div_mul, Nat.mul_div_cancel_left _ hp]; omega
    have h2 : (n - 1) / 2 ^ (c + 1) = m + 1 := by
      have : n - 1 = 2 ^ c * (2 * (m + 1)) + (2 ^ c - 1) := by
        rw [hm, Nat.mul_add, Nat.mul_one]; omega
      rw [this, Nat.pow_succ, ← Nat.div_div_eq_div_mul, Nat.mul_add_div hp, Nat.div_eq_of_lt (Nat.sub_lt hp (by decide))]; omega
    have h3 : (n &&& (n - 1)) / 2 ^ (c + 1) = (m + 1) &&& (m + 1) := by
      rw [Nat.and_div_two_pow, h1, h2]
    rw [ha, Nat.and_self, Nat.zero_div] at h3
    omega

theorem and_of_pow (k : Nat) : 2 ^ k &&& (2 ^ k - 1) = 0 := by
  rw [Nat.and_two_pow_sub_one_eq_mod, Nat.mod_self]

theorem bitLen_lt_iff (x o : Nat) (_h0 : 0 < x) (h : x < 2 ^ 64) : 2 ^ o ≤ x ↔ o < Lib.bitLen x := by
  constructor
  · intro ho
    have := Lib.bitLen_shift o x ho h
    have h1 : 1 ≤ x / 2 ^ o := by rw [Nat.le_div_iff_mul_le (Nat.two_pow_pos o)]; omega
    have h2 : x / 2 ^ o < 2 ^ 64 := Nat.lt_of_le_of_lt (Nat.div_le_self _ _) h
    have := Lib.bitLen_half (x / 2 ^ o) (by omega) h2
    omega
  · intro ho
    apply Nat.le_of_not_lt
    intro hlt
    by_cases h64 : o ≤ 64
    · have := Lib.bitLen_le x o h64 hlt
      omega
    · have := Lib.bitLen_le x 64 (by omega) h
      omega

/-! ### runs -/
/-- The order of the longest run from f on, up to t. -/
def ordN (f t : Nat) : Nat := min (min (Lib.ctz 64 f) (Lib.bitLen (t - f) - 1)) 20

theorem ordN_lt_iff (f t o : Nat) (h : f < t) (ht : t ≤ 1048576) : o < ordN f t ↔ o < 20 ∧ f % 2 ^ (o + 1) = 0 ∧ f + 2 ^ (o + 1) ≤ t := by
  have hb := bitLen_lt_iff (t - f) (o + 1) (by omega) (by omega)
  unfold ordN
  by_cases h0 : f = 0
  · subst h0
    have e : Lib.ctz 64 0 = 64 := rfl
    rw [e]
    simp only [Nat.zero_mod, true_and, Nat.sub_zero] at *
    omega
  · have hc := ctz_dvd f (o + 1) (by omega) (by omega)
    omega

theorem ordN_le (f t : Nat) : ordN f t ≤ 20 := by unfold ordN; omega

theorem ordN_fits (f t : Nat) (h : f < t) (ht : t ≤ 1048576) : f % 2 ^ ordN f t = 0 ∧ f + 2 ^ ordN f t ≤ t := by
  cases ho : ordN f t with
  | zero => simp; omega
  | succ o =>
    have := (ordN_lt_iff f t o h ht).1 (by omega)
    exact this.2

theorem ordN_one (k o : Nat) (ho : o < 20) (h : k * 2 ^ o + 2 ^ o ≤ 1048576) : ordN (k * 2 ^ o) (k * 2 ^ o + 2 ^ o) = o := by
  have hp := Nat.two_pow_pos o
  have a : ¬ o < ordN (k * 2 ^ o) (k * 2 ^ o + 2 ^ o) := by
    rw [ordN_lt_iff _ _ _ (by omega) h, Nat.pow_succ]
    omega
  cases o with
  | zero => omega
  | succ o =>
    have b := (ordN_lt_iff (k * 2 ^ (o + 1)) (k * 2 ^ (o + 1) + 2 ^ (o + 1)) o (by omega) h).2 ⟨by omega, Nat.mul_mod_left _ _, Nat.le_refl _⟩
    omega

/-- The runs, with fuel. -/
def cutF : Nat → Nat → Nat → List (Nat × Nat)
  | 0, _, _ => []
  | k + 1, f, t => if f < t then (f, ordN f t) :: cutF k (f + 2 ^ ordN f t) t else []

/-- The runs from f on up to t. -/
def cutL (f t : Nat) : List (Nat × Nat) := cutF (t - f) f t

theorem cutF_same : ∀ (k k' f t : Nat), t - f ≤ k → t - f ≤ k' → cutF k f t = cutF k' f t := by
  intro k
  induction k with
  | zero =>
    intro k' f t h _
    cases k' with
    | zero => rfl
    | succ k' => rw [cutF, cutF, if_neg (by omega)]
  | succ k ih =>
    intro k' f t h h'
    cases k' with
    | zero => rw [cutF, cutF, if_neg (by omega)]
    | succ k' =>
      rw [cutF, cutF]
      have hp := Nat.two_pow_pos (ordN f t)
      by_cases hft : f < t
      · rw [if_pos hft, if_pos hft, ih k' _ _ (by omega) (by omega)]
      · rw [if_neg hft, if_neg hft]

theorem cutL_lt (f t : Nat) (h : f < t) : cutL f t = (f, ordN f t) :: cutL (f + 2 ^ ordN f t) t := by
  unfold cutL
  obtain ⟨d, hd⟩ : ∃ d, t - f = d + 1 := ⟨t - f - 1, by omega⟩
  have hp := Nat.two_pow_pos (ordN f t)
  rw [hd, cutF, if_pos h, cutF_same d (t - (f + 2 ^ ordN f t)) _ _ (by omega) (by omega)]

theorem cutL_ge (f t : Nat) (h : t ≤ f) : cutL f t = [] := by
  unfold cutL
  rw [show t - f = 0 from by omega, cutF]

theorem cutL_length (n : Nat) : ∀ (f t : Nat), t - f ≤ n → (cutL f t).length ≤ t - f := by
  induction n with
  | zero => intro f t h; rw [cutL_ge _ _ (by omega)]; simp
  | succ n ih =>
    intro f t h
    by_cases hft : f < t
    · have hp := Nat.two_pow_pos (ordN f t)
      have := ih (f + 2 ^ ordN f t) t (by omega)
      rw [cutL_lt _ _ hft, List.length_cons]
      omega
    · rw [cutL_ge _ _ (by omega)]; simp

theorem cutL_one (k o : Nat) (ho : o < 20) (h : k * 2 ^ o + 2 ^ o ≤ 1048576) : cutL (k * 2 ^ o) (k * 2 ^ o + 2 ^ o) = [(k * 2 ^ o, o)] := by
  have hp := Nat.two_pow_pos o
  rw [cutL_lt _ _ (by omega), ordN_one k o ho h, cutL_ge _ _ (Nat.le_refl _)]

/-- Runs as they lie in memory: two numbers each. -/
def runCells (l : List (Nat × Nat)) : List Value := l.flatMap fun r => [Value.int .i64 r.1, Value.int .i64 r.2]

theorem runCells_append (a b : List (Nat × Nat)) : runCells (a ++ b) = runCells a ++ runCells b := by simp [runCells]
theorem runCells_length (l : List (Nat × Nat)) : (runCells l).length = l.length * 2 := by
  induction l with
  | nil => rfl
  | cons a l ih => simp only [runCells, List.flatMap_cons, List.length_append, List.length_cons, List.length_nil] at *; omega
theorem runCells_first : ∀ (l : List (Nat × Nat)) (i : Nat), i < l.length → (runCells l)[i * 2]? = some (.int .i64 (l.getD i (0, 0)).1)
  | a :: l, 0, _ => by simp [runCells]
  | a :: l, i + 1, h => by
    have := runCells_first l i (by simpa using h)
    have e : (i + 1) * 2 = i * 2 + 2 := by omega
    rw [e]
    simpa [runCells] using this
theorem runCells_second : ∀ (l : List (Nat × Nat)) (i : Nat), i < l.length → (runCells l)[i * 2 + 1]? = some (.int .i64 (l.getD i (0, 0)).2)
  | a :: l, 0, _ => by simp [runCells]
  | a :: l, i + 1, h => by
    have := runCells_second l i (by simpa using h)
    have e : (i + 1) * 2 + 1 = i * 2 + 1 + 2 := by omega
    rw [e]
    simpa [runCells] using this

end Go.Proofs.YtmmbfgkfidconaaDoor
/- Blocks of powers of two: how numbers are cut into them; how many frames they cover. No word of the program. -/
namespace Go.Proofs.YtmmbfgkfidconaaDoor

/-- A run, in blocks of at most 32. -/
def spl (r : Bk) : List Bk := (List.range (2 ^ (r.2 - min r.2 5))).map fun k => (r.1 + k * 2 ^ min r.2 5, min r.2 5)
def blkL (f t : Nat) : List Bk := (cutL f t).flatMap spl
theorem spl_many (f T : Nat) (hd : 32 ∣ f) : ∀ n, Cvr f (f + n * 32) T ((List.range n).map fun k => (f + k * 2 ^ 5, 5))
  | 0 => by simpa using Cvr.nil f T
  | n + 1 => by
    rw [List.range_succ, List.map_append]
    refine (spl_many f T hd n).app (t := f + (n + 1) * 32) (m := f + n * 32) ?_ (by omega) (by omega)
    have := Cvr.one (f := f + n * 32) (o := 5) (T := T) (by omega) (Nat.dvd_add hd ⟨n, by omega⟩) (by omega)
    rw [show f + n * 32 + 2 ^ 5 = f + (n + 1) * 32 by omega] at this
    simpa using this
theorem spl_cvr (r : Bk) (T : Nat) (hd : 2 ^ r.2 ∣ r.1) (hg : r.2 < 5 → 2 ^ (r.2 + 1) ∣ r.1 → T < r.1 + 2 ^ (r.2 + 1)) : Cvr r.1 (r.1 + 2 ^ r.2) T (spl r) := by
  obtain ⟨f, o⟩ := r
  simp only at *
  rcases Nat.lt_or_ge 5 o with h | h
  · have e : min o 5 = 5 := by omega
    have hp : 2 ^ o = 2 ^ (o - 5) * 32 := by
      rw [show (32 : Nat) = 2 ^ 5 by rfl, ← Nat.pow_add]
      congr 1
      omega
    have := spl_many f T (Nat.dvd_trans ⟨2 ^ (o - 5), by rw [hp, Nat.mul_comm]⟩ hd) (2 ^ (o - 5))
    rw [← hp] at this
    unfold spl
    rw [e]
    exact this
  · have e : min o 5 = o := by omega
    unfold spl
    rw [e, Nat.sub_self]
    simpa using Cvr.one h hd hg
theorem blkL_cvr (n : Nat) : ∀ (f t : Nat), t - f ≤ n → f ≤ t → t ≤ 1048576 → Cvr f t t (blkL f t) := by
  induction n with
  | zero =>
    intro f t h1 h2 _
    obtain rfl : f = t := by omega
    unfold blkL
    rw [cutL_ge f f (Nat.le_refl _)]
    exact Cvr.nil f f
  | succ n ih =>
    intro f t h1 h2 h3
    rcases Nat.lt_or_ge f t with h | h
    · have ho := ordN_fits f t h h3
      have hp := Nat.two_pow_pos (ordN f t)
      unfold blkL
      rw [cutL_lt f t h, List.flatMap_cons]
      refine (spl_cvr (f, ordN f t) t (Nat.dvd_of_mod_eq_zero ho.1) ?_).app (ih (f + 2 ^ ordN f t) t (by omega) ho.2 h3) (by simp) ho.2
      intro h5 hd
      simp only at h5 hd ⊢
      rcases Nat.lt_or_ge t (f + 2 ^ (ordN f t + 1)) with c | c
      · exact c
      · exfalso
        have := (ordN_lt_iff f t (ordN f t) h h3).2 ⟨by omega, Nat.mod_eq_zero_of_dvd hd, c⟩
        omega
    · obtain rfl : f = t := by omega
      unfold blkL
      rw [cutL_ge f f (Nat.le_refl _)]
      exact Cvr.nil f f
theorem blk_cvr {f t : Nat} (h : f ≤ t) (ht : t ≤ 1048576) : Cvr f t t (blkL f t) := blkL_cvr (t - f) f t (Nat.le_refl _) h ht

theorem sorted_len : ∀ (l : List Bk) (f t : Nat), l.Pairwise (fun a b => bend a ≤ b.1) → (∀ b ∈ l, f ≤ b.1 ∧ bend b ≤ t) → l.length ≤ t - f
  | [], _, _, _, _ => by simp
  | b :: l, f, t, hp, h => by
    obtain ⟨h1, h2⟩ := List.pairwise_cons.1 hp
    have hb := h b (by simp)
    have hbe := bend_pos b
    have := sorted_len l (bend b) t h2 fun c hc => ⟨h1 c hc, (h c (by simp [hc])).2⟩
    rw [List.length_cons]
    omega
theorem Cvr.len {f t T : Nat} {l : List Bk} (h : Cvr f t T l) : l.length ≤ t - f := sorted_len l f t h.sorted fun b hb => (h.al b hb).2

/-- How many frames. -/
def size (L : List Bk) : Nat := (L.map fun b => 2 ^ b.2).sum
def covB (L : List Bk) (x : Nat) : Bool := L.any fun b => decide (b.1 ≤ x) && decide (x < bend b)
theorem covB_iff (L : List Bk) (x : Nat) : covB L x = true ↔ cov L x := by simp [covB, cov, inB]
theorem covB_false (L : List Bk) (x : Nat) : covB L x = false ↔ ¬ cov L x := by rw [← covB_iff]; simp
theorem covB_eq {L M : List Bk} {x : Nat} (h : cov L x ↔ cov M x) : covB L x = covB M x := by
  by_cases c : cov M x
  · rw [(covB_iff M x).2 c, (covB_iff L x).2 (h.2 c)]
  · rw [(covB_false M x).2 c, (covB_false L x).2 fun e => c (h.1 e)]
def cnt (F : Nat → Bool) : Nat → Nat
  | 0 => 0
  | n + 1 => cnt F n + if F n then 1 else 0
theorem cnt_same {F G : Nat → Bool} : ∀ (n : Nat), (∀ x, x < n → F x = G x) → cnt F n = cnt G n
  | 0, _ => rfl
  | n + 1, h => by rw [cnt, cnt, cnt_same n fun x hx => h x (by omega), h n (by omega)]
theorem cnt_flip {F G : Nat → Bool} (a k : Nat) : ∀ (n : Nat), (∀ x, x < n → a ≤ x → x < a + k → F x = false ∧ G x = true) → (∀ x, x < n → ¬ (a ≤ x ∧ x < a + k) → F x = G x) → cnt G n = cnt F n + (min n (a + k) - a)
  | 0, _, _ => by simp [cnt]
  | n + 1, h1, h2 => by
    have ih := cnt_flip a k n (fun x hx => h1 x (by omega)) (fun x hx => h2 x (by omega))
    rw [cnt, cnt, ih]
    by_cases c : a ≤ n ∧ n < a + k
    · have := h1 n (by omega) c.1 c.2
      rw [this.1, this.2]
      simp
      omega
    · rw [h2 n (by omega) c]
      omega
/-- A block more. -/
theorem cnt_more {F G : Nat → Bool} {n : Nat} (b : Bk) (hb : bend b ≤ n) (h1 : ∀ x, inB b x → F x = false ∧ G x = true) (h2 : ∀ x, ¬ inB b x → F x = G x) : cnt G n = cnt F n + 2 ^ b.2 := by
  have := cnt_flip b.1 (2 ^ b.2) n (fun x _ ha hb => h1 x ⟨ha, hb⟩) (fun x _ hn => h2 x hn)
  rw [this]
  unfold bend at hb
  rw [Nat.min_eq_right hb, Nat.add_sub_cancel_left]
theorem size_cnt : ∀ (L : List Bk) (n : Nat), L.Pairwise (fun a b => bend a ≤ b.1) → (∀ b ∈ L, bend b ≤ n) → size L = cnt (covB L) n
  | [], n, _, _ => by
    have : ∀ n, cnt (covB []) n = 0 := fun n => by
      induction n with
      | zero => rfl
      | succ n ih => rw [cnt, ih]; simp [covB]
    rw [this]
    rfl
  | b :: L, n, hp, h => by
    obtain ⟨h1, h2⟩ := List.pairwise_cons.1 hp
    have ih := size_cnt L n h2 fun c hc => h c (by simp [hc])
    have e : size (b :: L) = 2 ^ b.2 + size L := by simp [size]
    have hn : ∀ x, inB b x → ¬ cov L x := by
      rintro x hx ⟨c, hc, hxc⟩
      have := h1 c hc
      have := hx.2
      have := hxc.1
      omega
    rw [e, ih, cnt_more (F := covB L) (G := covB (b :: L)) b (h b (by simp)) (fun x hx => ⟨(covB_false _ _).2 (hn x hx), (covB_iff _ _).2 (cov_cons.2 (Or.inl hx))⟩) (fun x hx => covB_eq (by rw [cov_cons]; exact ⟨Or.inr, fun h => h.elim (fun h' => absurd h' hx) id⟩))]
    omega
theorem cnt_all : ∀ (F : Nat → Bool) (n : Nat), (∀ x, x < n → F x = true) → cnt F n = n
  | _, 0, _ => rfl
  | F, n + 1, h => by rw [cnt, cnt_all F n fun x hx => h x (by omega), h n (by omega)]; rfl
end Go.Proofs.YtmmbfgkfidconaaDoor
/- What every text of a seat may lean on: answers, frames, structs that lie as variables of their own. -/
namespace Go.Proofs.YtmmbfgkfidconaaDoor
open Go.RowKit

theorem ret_bool {a b : Bool} (h : a = b) : Ending.returned (.bool a) = .returned (.bool b) := by rw [h]
theorem ret_int {k : IntKind} {a b : Int} (h : a = b) : Ending.returned (.int k a) = .returned (.int k b) := by rw [h]
theorem cell_alloc_old {w : World} {b : Nat} (h : b < w.heap.size) (o : Nat) (v : Obj) : (w.alloc v).cell? ⟨b, o, none⟩ = w.cell? ⟨b, o, none⟩ :=
  World.cell?_of_block (Below.heap_alloc w v b h)
theorem bcell {W w1 : World} (hb : Below W.heap.size W w1) : (∀ b o, b < W.heap.size → w1.cell? ⟨b, o, none⟩ = W.cell? ⟨b, o, none⟩) ∧ (∀ b o, b < W.heap.size → w1.frozen? ⟨b, o, none⟩ = W.frozen? ⟨b, o, none⟩) :=
  ⟨fun b o h => hb.cell (p := ⟨b, o, none⟩) h, fun b o h => hb.frozen (p := ⟨b, o, none⟩) h⟩
/-- The world behind a call that makes memory alone, all of it told from the first one. -/
theorem below_call {B : Nat} {a W w1 : World} (h : Below B a W) (hz : B ≤ W.heap.size) (hb : Below W.heap.size W w1) : Below B a w1 := h.trans (hb.mono hz)
theorem below_new {B : Nat} {a W w1 : World} {v : Obj} (h : Below B a W) (hz : B ≤ W.heap.size) (hb : Below (W.alloc v).heap.size (W.alloc v) w1) : Below B a w1 :=
  (h.alloc hz v).trans (hb.mono (by simp; omega))
theorem eq_err (n : Int) (w : World) : (binOp .eql 25 (.iface 28 (.int .i64 n)) (.iface 28 (.int .i64 n))).run Tryd.prog w = .ok (.bool true) w := by
  have := Lib.run_eql_iface_int (P := Tryd.prog) w (t := 25) (tx := 28) (k := .i64) n n Tryd.underlying25 (by kernel_rfl) Tryd.underlying28
  rw [beq_self_eq_true] at this
  exact this

/-- What holds below B behind a call that writes a row of the call's own. -/
theorem below_row {B : Nat} {a w w' : World} {s : Nat} (h : Below B a w) (hz : B ≤ w.heap.size) (hg : w.grownBy w' (some s)) (hs : B ≤ s) : Below B a w' :=
  h.grown hg hz fun k hk => by cases hk; exact hs

theorem below_call' {a W w1 : World} (h : Below a.heap.size a W) (hb : Below W.heap.size W w1) : Below a.heap.size a w1 := h.trans (hb.mono h.size)
theorem neq_err (n : Int) (w : World) : (binOp .neq 25 (.iface 28 (.int .i64 n)) (.iface 28 (.int .i64 n))).run Tryd.prog w = .ok (.bool false) w := by
  have := Lib.run_neq_iface_int (P := Tryd.prog) w (t := 25) (tx := 28) (k := .i64) n n Tryd.underlying25 (by kernel_rfl) Tryd.underlying28
  simpa using this
theorem frozen_alloc_old {w : World} {b : Nat} (h : b < w.heap.size) (o : Nat) (v : Obj) : (w.alloc v).frozen? ⟨b, o, none⟩ = w.frozen? ⟨b, o, none⟩ :=
  World.frozen?_of_block (Below.heap_alloc w v b h)
def Thaw (w : World) (b : Nat) : Prop := b < w.heap.size ∧ ∀ o, w.frozen? ⟨b, o, none⟩ = false
theorem Thaw.old {w : World} {b : Nat} (h : Thaw w b) (v : Obj) : Thaw (w.alloc v) b :=
  ⟨by simp; have := h.1; omega, fun o => by rw [frozen_alloc_old h.1]; exact h.2 o⟩
theorem Thaw.below {W w1 : World} {b : Nat} (h : Thaw W b) (hb : Below W.heap.size W w1) : Thaw w1 b :=
  ⟨by have := hb.size; have := h.1; omega, fun o => by rw [(bcell hb).2 b o h.1]; exact h.2 o⟩
theorem Thaw.rules {w : World} {b : Nat} (h : Thaw w b) : (∀ o v, (w.alloc v).frozen? ⟨b, o, none⟩ = w.frozen? ⟨b, o, none⟩) ∧ ∀ o, w.frozen? ⟨b, o, none⟩ = false :=
  ⟨fun o v => frozen_alloc_old h.1 o v, h.2⟩
theorem ne_of_tag {w : World} {a b : Nat} {c c' : Array Value} {t t' : TypeId} {fr fr' : Nat × Nat} (h : w.heap[a]? = some (.cells c t fr)) (h' : w.heap[b]? = some (.cells c' t' fr')) (ht : t ≠ t') : a ≠ b := by
  intro e
  subst e
  rw [h] at h'
  simp at h'
  exact ht h'.2.1
/-- A struct of cells cs that lies at block b. -/
def Laid (w : World) (b : Nat) (t : TypeId) (cs : Array Value) : Prop := w.heap[b]? = some (.cells cs t (0, 0))
theorem Laid.lt {w : World} {b : Nat} {t : TypeId} {cs : Array Value} (h : Laid w b t cs) : b < w.heap.size := (Array.getElem?_eq_some_iff.1 h).1
theorem Laid.below {w w' : World} {b : Nat} {t : TypeId} {cs : Array Value} (h : Laid w b t cs) (hb : Below w.heap.size w w') : Laid w' b t cs := (hb.block b h.lt).trans h
theorem Laid.kept {w w' : World} {b : Nat} {t : TypeId} {cs : Array Value} {row : Option Nat} (h : Laid w b t cs) (hg : w.grownBy w' row) (hr : some b ≠ row) : Laid w' b t cs := (hg.block b h.lt hr).trans h
theorem Laid.cell {w : World} {b : Nat} {t : TypeId} {cs : Array Value} (h : Laid w b t cs) (j : Nat) : w.cell? ⟨b, j, none⟩ = cs[j]? := cell_of_row w b j cs t (0, 0) h
theorem Laid.new (w : World) (t : TypeId) (cs : Array Value) : Laid (w.alloc (.cells cs t)) w.heap.size t cs := heap_alloc_new w _
end Go.Proofs.YtmmbfgkfidconaaDoor
/- What word.Down answers where it may be asked. -/
namespace Go.Proofs.YtmmbfgkfidconaaDoor
open Go.RowKit

def alignB (n o : Int) : Bool := decide (0 ≤ n ∧ n ≤ 1099511627776 ∧ 0 ≤ o ∧ o ≤ 20)
set_option maxHeartbeats 400000 in
theorem mayAlign_any (n o : Int) (w : World) :
    Calls Tryd.prog 73 #[.int .i64 n, .int .i64 o] w fun e w' => e = .returned (.bool (alignB n o)) ∧ w' = w := by
  go_enter Tryd.func73, Tryd.ntmps73
  go_wp2
  all_goals go_ret
  all_goals refine ⟨ret_bool ?_, rfl⟩
  all_goals (rw [Bool.eq_iff_iff]; simp [alignB]; try omega)

set_option maxHeartbeats 400000 in
theorem alignDown_any (n o : Int) (w : World) (hn : 0 ≤ n) (hn' : n ≤ 2199023255552) (ho : 0 ≤ o) (ho' : o ≤ 20) :
    Calls Tryd.prog 74 #[.int .i64 n, .int .i64 o] w fun e w' => e = .returned (.int .i64 (n / 2 ^ o.toNat * 2 ^ o.toNat)) ∧ w' = w := by
  go_enter Tryd.func74, Tryd.ntmps74
  go_wp2
  go_ret
  refine ⟨ret_int (Go.IntWalk.wrap64_in _ ?_), rfl⟩
  have h1 : 0 ≤ n / 2 ^ o.toNat * 2 ^ o.toNat := Int.mul_nonneg (Int.ediv_nonneg hn (Int.le_of_lt (Int.pow_pos (by decide)))) (Int.le_of_lt (Int.pow_pos (by decide)))
  have h2 : n / 2 ^ o.toNat * 2 ^ o.toNat ≤ n := Int.ediv_mul_le _ (Int.ne_of_gt (Int.pow_pos (by decide)))
  omega

set_option maxHeartbeats 400000 in
theorem down_yes (n o : Int) (w : World) (h : alignB n o = true) :
    Calls Tryd.prog 68 #[.int .i64 n, .int .i64 o] w fun e w' => e = .returned (.tuple #[.int .i64 (n / 2 ^ o.toNat * 2 ^ o.toNat), .nilIface]) ∧ w' = w := by
  have hb : 0 ≤ n ∧ n ≤ 1099511627776 ∧ 0 ≤ o ∧ o ≤ 20 := by simpa [alignB] using h
  obtain ⟨h1, h2, h3, h4⟩ := hb
  go_enter Tryd.func68, Tryd.ntmps68
  go_wp2_with (first | (go_at_call 73; refine (mayAlign_any _ _ _).mono ?_; rintro e w1 ⟨rfl, hw⟩; obtain rfl := hw.symm; clear hw) | (go_at_call 74; refine (alignDown_any _ _ _ h1 (by omega) h3 h4).mono ?_; rintro e w1 ⟨rfl, hw⟩; obtain rfl := hw.symm; clear hw))
  go_ret2
  exact ⟨rfl, rfl⟩
end Go.Proofs.YtmmbfgkfidconaaDoor
/- What math/bits.TrailingZeros64 and Len64 (at numbers below 2^24) and word.longest answer; under the condition that the library's table lies as its text lays it. -/
namespace Go.Proofs.YtmmbfgkfidconaaDoor
open Go.RowKit

/-- The library's table, as it is laid. -/
def Tab (w : World) : Prop := ∀ j, j < 64 → w.cell? ⟨0, j, none⟩ = some (.int .u8 (Lib.deBruijn64tab.getD j 0))

theorem Tab.below {B : Nat} {w w' : World} (h : Tab w) (hb : Below B w w') (hB : w.heap.size ≤ B) : Tab w' := by
  intro j hj
  have hc := h j hj
  rw [hb.cell (p := ⟨0, j, none⟩) (by have : 0 < w.heap.size := World.block_lt_of_cell? w _ hc; show 0 < B; omega)]
  exact hc

theorem tz64_key (x a : Nat) (hx : x < 18446744073709551616) (hx0 : x ≠ 0) (hlow : x &&& (18446744073709551616 - x) = a) :
    IntKind.u64.wrap (bits BinOp.and IntKind.u64 (x : Int) (IntKind.u64.wrap (-(x : Int))) * 285870213051353865) / 288230376151711744 = ((a * 285870213051353865 % 18446744073709551616 / 288230376151711744 : Nat) : Int) := by
  have e1 : IntKind.u64.wrap (-(x : Int)) = ((18446744073709551616 - x : Nat) : Int) := by rw [IntKind.wrap_u64]; omega
  rw [e1, bits_and_u64_nat x _ hx (by omega), hlow, IntKind.wrap_u64]
  omega

set_option maxHeartbeats 1000000 in
theorem tz64_core (x k idx : Nat) (w : World) (hx0 : ((x : Int) == 0) = false)
    (key : IntKind.u64.wrap (bits BinOp.and IntKind.u64 (x : Int) (IntKind.u64.wrap (-(x : Int))) * 285870213051353865) / 288230376151711744 = (idx : Int))
    (hi : idx < 64) (hk : k < 64) (hcell : w.cell? ⟨0, idx, none⟩ = some (.int .u8 k)) :
    Calls Tryd.prog 71 #[.int .u64 x] w fun e w' => e = .returned (.int .i64 k) ∧ w' = w := by
  go_enter Tryd.func71, Tryd.ntmps71
  go_wp2_with (simp only [key])
  go_ret
  exact ⟨rfl, rfl⟩
theorem tz64_zero (w : World) : Calls Tryd.prog 71 #[.int .u64 0] w fun e w' => e = .returned (.int .i64 64) ∧ w' = w := by
  go_enter Tryd.func71, Tryd.ntmps71
  go_wp2
  go_ret
  exact ⟨rfl, rfl⟩
theorem tz64_any (x : Nat) (hx : x < 18446744073709551616) (w : World) (hT : Tab w) :
    Calls Tryd.prog 71 #[.int .u64 x] w fun e w' => e = .returned (.int .i64 (Lib.ctz 64 x)) ∧ w' = w := by
  by_cases hx0 : x = 0
  · subst hx0
    exact tz64_zero w
  · obtain ⟨hlow, hk⟩ := Lib.lowest_bit 64 x hx0 hx
    obtain ⟨hi, htab⟩ := Lib.deBruijn64_at _ hk
    have hcell := hT _ hi
    rw [htab] at hcell
    exact tz64_core x _ _ w (by simp; omega) (tz64_key x _ hx hx0 hlow) hi hk hcell

theorem len8_at (i : Int) (h0 : 0 ≤ i) (h : i ≤ 255) (hp : i.toNat < Lib.len8tab.size) : (((Lib.len8tab[i.toNat]'hp).toNat : Nat) : Int) = Lib.bitLen i.toNat := by
  rw [← Lib.len8_of i h0 h]
  simp only [Lib.len8]
  generalize Lib.len8tab = tb at hp ⊢
  rw [getElem?_pos tb i.toNat hp, Option.getD_some]

set_option maxHeartbeats 4000000 in
set_option maxRecDepth 100000 in
theorem len64_any (x : Int) (w : World) (h0 : 0 ≤ x) (h1 : x ≤ 16777215) :
    Calls Tryd.prog 72 #[.int .u64 x] w fun e w' => e = .returned (.int .i64 (Lib.bitLen x.toNat)) ∧ w' = w := by
  have hs := Lib.len8tab_size
  go_enter Tryd.func72, Tryd.ntmps72
  go_wp2
  all_goals (go_ret; refine ⟨congrArg Ending.returned (congrArg (Value.int IntKind.i64) ?_), rfl⟩)
  all_goals unfold wrap64
  all_goals first
    | (rw [len8_at (x / 65536) (by omega) (by omega)]
       have e : (x / 65536).toNat = x.toNat / 65536 := by omega
       have l := Lib.bitLen_le8' (x / 65536) (by omega) (by omega)
       have s := Lib.bitLen_shift16 x.toNat (by omega) (by omega)
       rw [e] at l ⊢
       omega)
    | (rw [len8_at (x / 256) (by omega) (by omega)]
       have e : (x / 256).toNat = x.toNat / 256 := by omega
       have l := Lib.bitLen_le8' (x / 256) (by omega) (by omega)
       have s := Lib.bitLen_shift8 x.toNat (by omega) (by omega)
       rw [e] at l ⊢
       omega)
    | (rw [len8_at x (by omega) (by omega)]
       have l := Lib.bitLen_le8' x (by omega) (by omega)
       omega)

/-- The longest run's order. -/
theorem longest_core (f t : Nat) (c b : Nat) (w : World) (hft : f < t) (ht : t ≤ 1048576) (hc : c ≤ 64) (hb : 1 ≤ b) (hb' : b ≤ 24)
    (H1 : Calls Tryd.prog 71 #[.int .u64 f] w fun e w' => e = .returned (.int .i64 c) ∧ w' = w)
    (H2 : Calls Tryd.prog 72 #[.int .u64 ((t : Int) - f)] w fun e w' => e = .returned (.int .i64 b) ∧ w' = w) :
    Calls Tryd.prog 67 #[.int .i64 f, .int .i64 t] w fun e w' => e = .returned (.int .i64 (min (min c (b - 1)) 20 : Nat)) ∧ w' = w := by
  go_enter Tryd.func67, Tryd.ntmps67
  go_wp2_with fail
  refine H1.mono ?_
  rintro e w' ⟨rfl, rfl⟩
  go_wp2_with fail
  refine H2.mono ?_
  rintro e w'' ⟨rfl, rfl⟩
  go_wp2_with fail
  all_goals (go_ret; refine ⟨ret_int ?_, rfl⟩)
  all_goals omega

theorem longest_any (f t : Nat) (w : World) (hT : Tab w) (hft : f < t) (ht : t ≤ 1048576) :
    Calls Tryd.prog 67 #[.int .i64 f, .int .i64 t] w fun e w' => e = .returned (.int .i64 (ordN f t)) ∧ w' = w := by
  have hc : Lib.ctz 64 f ≤ 64 := by
    by_cases h0 : f = 0
    · subst h0; decide
    · exact Nat.le_of_lt (ctz_lt f (by omega) (by omega))
  have hb1 : 1 ≤ Lib.bitLen (t - f) := (bitLen_lt_iff (t - f) 0 (by omega) (by omega)).1 (by simp; omega)
  have hb2 : Lib.bitLen (t - f) ≤ 24 := Lib.bitLen_le _ 24 (by decide) (by omega)
  have h2 := len64_any ((t : Int) - f) w (by omega) (by omega)
  rw [show ((t : Int) - f).toNat = t - f from by omega] at h2
  exact longest_core f t _ _ w hft ht hc hb1 hb2 (tz64_any f (by omega) w hT) h2
end Go.Proofs.YtmmbfgkfidconaaDoor
/- What word.Cut answers; conditions: the table lies as its text lays it. -/
namespace Go.Proofs.YtmmbfgkfidconaaDoor
open Go.RowKit

theorem info_two : (Tryd.prog.info? 89).map (fun i => (i.zero, i.size, i.bytes)) = some (some (.agg #[.int .i64 0, .int .i64 0]), 2, 16) := by kernel_rfl

theorem runs_step {B : Nat} {w wr w1 : World} {o : Obj} {u v' : Value} {xs : List (Nat × Nat)} {f k : Nat} (hB : B ≤ wr.heap.size) (hown : wr.ownsRow B 89 2 u xs.length (runCells xs)) (hbel : Below B w wr)
    (hown' : w1.ownsRow B 89 2 v' (xs.length + 1) (runCells xs ++ [.int .i64 f, .int .i64 k])) (hgrow : (wr.alloc o).grownBy w1 u.ownBlock) :
    w1.ownsRow B 89 2 v' (xs ++ [(f, k)]).length (runCells (xs ++ [(f, k)])) ∧ Below B w w1 := by
  refine ⟨?_, (hbel.alloc hB o).grown hgrow (by simp; omega) (fun k hk => (hown.lt k hk).1)⟩
  rw [runCells_append, List.length_append]
  exact hown'

set_option maxHeartbeats 1000000 in
theorem cut_yes (f0 t : Nat) (w : World) (hT : Tab w) (hf : f0 ≤ t) (ht : t ≤ 1048576) :
    Calls Tryd.prog 57 #[.int .i64 f0, .int .i64 t] w fun e w' => ∃ v, e = .returned (.tuple #[v, .nilIface]) ∧ w'.ownsRow w.heap.size 89 2 v (cutL f0 t).length (runCells (cutL f0 t)) ∧ Below w.heap.size w w' := by
  obtain ⟨i0, hi, hz0, hz1, hz2⟩ := info_parts info_two
  have n1 : ¬ ((f0 : Int) < 0) := by omega
  have n2 : ¬ (t < f0) := by omega
  have n3 : ¬ ((1048576 : Int) < (t : Int)) := by omega
  go_enter Tryd.func57, Tryd.ntmps57
  go_wp2
  go_loopw [0, 6] (fun fr v wr => ∃ (f : Nat) (xs : List (Nat × Nat)), fr = .int .i64 f ∧ f ≤ t ∧ xs ++ cutL f t = cutL f0 t ∧ xs.length ≤ f ∧ wr.ownsRow w.heap.size 89 2 v xs.length (runCells xs) ∧ Below w.heap.size w wr)
    (fun fr _ _ => t - (intOf fr).toNat)
  case atStart => exact ⟨f0, [], rfl, hf, rfl, by simp, World.ownsRow_nil _ _ _ _, Below.refl _ _⟩
  case round =>
    obtain ⟨f, xs, rfl, hft, hxs, hlen, hown, hbel⟩ := hrel
    have hTr := hT.below hbel (Nat.le_refl _)
    have HX : Hid _ := hxs
    have HT : Hid (Tab wr) := hTr
    clear hxs hTr
    by_cases hlt : f < t
    · have hol := ordN_le f t
      have hof := (ordN_fits f t hlt ht).2
      go_wp2_with (first
        | (go_at_call 67; refine (longest_any f t _ HT.out hlt ht).mono ?_; rintro e w1 ⟨rfl, hw⟩; obtain rfl := hw.symm)
        | (at_builtin; refine wpList_append_own _ rfl _ _ 86 rfl w.heap.size 89 i0 (.agg #[.int .i64 0, .int .i64 0]) 2 16 Tryd.underlying86 hi hz0 hz1 hz2 rfl (by decide) _ _ _ rfl (hown.alloc _) ⟨wr.heap.size, 0, none⟩ 1 1 [.int .i64 f, .int .i64 (ordN f t)] rfl rfl ?c1 ?c2 ?c3 ?c4 ?c5 ?_))
      case c1 =>
        intro j u hj
        match j, hj with
        | 0, hj => simp at hj; subst hj; simp [Addr.add]
        | 1, hj => simp at hj; subst hj; simp [Addr.add]
      case c2 => intro u hu; simp at hu; rcases hu with rfl | rfl <;> rfl
      case c3 => unfold maxLen; omega
      case c4 => omega
      case c5 => have := hbel.size; simp; omega
      intro v' w1 hown' hgrow _
      have R := runs_step hbel.size hown hbel hown' hgrow
      have HR : Hid _ := R
      have h1 : (0 : Int) ≤ 2 ^ (ordN f t) := Int.le_of_lt (Int.pow_pos (by decide))
      have h2 : (2 : Int) ^ (ordN f t) ≤ 1048576 := by
        have := Nat.pow_le_pow_right (show 0 < 2 by decide) hol
        simp only [Nat.reducePow] at this
        have e : ((2 ^ ordN f t : Nat) : Int) = 2 ^ ordN f t := by simp
        omega
      clear hown' hgrow hown hbel HT R
      have e2 : ((2 ^ ordN f t : Nat) : Int) = 2 ^ ordN f t := by simp
      have h3 := Nat.two_pow_pos (ordN f t)
      have HE : Hid _ := e2
      clear e2
      go_wp2
      go_roundw
      case rel =>
        have e2 := HE.out
        refine ⟨f + 2 ^ ordN f t, xs ++ [(f, ordN f t)], ?_, hof, ?_, ?_, HR.out.1, HR.out.2⟩
        · go_num
        · rw [← HX.out, cutL_lt f t hlt]; simp
        · simp; omega
      case measure =>
        have e2 := HE.out
        simp only [intOf]; omega
    · have : f = t := by omega
      subst this
      have hx := HX.out
      rw [cutL_ge f f (Nat.le_refl _), List.append_nil] at hx
      have HX2 : Hid _ := hx
      clear HX hx
      go_wp2
      go_ret2
      refine ⟨_, rfl, ?_, hbel⟩
      rw [← HX2.out]
      exact hown
end Go.Proofs.YtmmbfgkfidconaaDoor
/- Rows of api.Run and of [2]int; the small functions of layer 7. -/
namespace Go.Proofs.YtmmbfgkfidconaaDoor
open Go.RowKit

def bcells (b : Bk) : List Value := [.int .i64 b.1, .int .i64 b.2]
theorem bcells_one (b : Bk) : ∀ u ∈ bcells b, u.oneCell' = true := by
  intro u hu
  simp only [bcells, List.mem_cons, List.not_mem_nil, or_false] at hu
  rcases hu with rfl | rfl <;> rfl
def rB : Rec Bk := ⟨56, 2, 16, (0, 0), bcells, fun _ => rfl, by decide, bcells_one⟩
def rC : Rec Bk := ⟨89, 2, 16, (0, 0), bcells, fun _ => rfl, by decide, bcells_one⟩
theorem rB.kin : Kin Tryd.prog rB 53 := Kin.of (z := .agg #[.int .i64 0, .int .i64 0]) Tryd.underlying53 (by kernel_rfl) rfl
theorem rB.zone : ∀ i z, Tryd.prog.info? rB.t = some i → i.zero = some z → ∀ u ∈ z.cells, u.oneCell' = true := by
  intro i z hi hz
  have h : (Tryd.prog.info? 56).map (fun i => i.zero) = some (some (.agg #[.int .i64 0, .int .i64 0])) := by kernel_rfl
  rw [show Tryd.prog.info? 56 = some i from hi, Option.map_some, hz] at h
  simp at h
  subst h
  intro u hu
  simp [Value.cells] at hu
  subst hu
  rfl
theorem rB.at {w : World} {b o : Nat} {d : Bk} (h : At rB w b o d) : w.cell? ⟨b, o, none⟩ = some (.int .i64 d.1) ∧ w.cell? ⟨b, o + 1, none⟩ = some (.int .i64 d.2) := ⟨h 0 (by decide), h 1 (by decide)⟩
/-- A block as a value. -/
def bval (b : Bk) : Value := .agg #[.int .i64 b.1, .int .i64 b.2]

theorem below_drewN {B : Nat} {a w : World} (h : Below B a w) (n : Nat) : Below B a (w.drewN n) := ⟨h.os, h.tape, h.output, h.size, h.block⟩

set_option maxHeartbeats 1000000 in
theorem end_any (b : Bk) (w : World) (h1 : b.1 ≤ 1048576) (h5 : b.2 ≤ 20) :
    Calls Tryd.prog 53 #[bval b] w fun e w' => e = .returned (.int .i64 (bend b)) ∧ Below w.heap.size w w' := by
  have hp : (2 : Nat) ^ b.2 ≤ 1048576 := Nat.pow_le_pow_right (show 0 < 2 by decide) h5
  have e : ((2 ^ b.2 : Nat) : Int) = 2 ^ b.2 := by simp
  have hp0 : (0 : Int) ≤ 2 ^ b.2 := Int.le_of_lt (Int.pow_pos (by decide))
  have hp1 : (2 : Int) ^ b.2 ≤ 1048576 := by omega
  have hE : Hid (((2 ^ b.2 : Nat) : Int) = 2 ^ b.2) := e
  clear e hp
  unfold bval
  go_enter Tryd.func53, Tryd.ntmps53
  go_wp2
  go_quiet (fail)
  go_wp2
  go_ret
  refine ⟨ret_int ?_, ?_⟩
  · unfold bend
    have := hE.out
    omega
  · exact below_drewN (Below.alloc (Below.refl _ _) (Nat.le_refl _) _) _

theorem mayOrder_any (o : Int) (w : World) :
    Calls Tryd.prog 58 #[.int .i64 o] w fun e w' => e = .returned (.bool (decide (0 ≤ o ∧ o ≤ 5))) ∧ w' = w := by
  go_enter Tryd.func58, Tryd.ntmps58
  go_wp2
  all_goals (go_ret; refine ⟨ret_bool ?_, rfl⟩)
  all_goals simp
  all_goals omega
end Go.Proofs.YtmmbfgkfidconaaDoor
