/- Own texts, joined: Z, ZArgs, ZRow, ZRow2, ARt, FDd, FPick, AAr, AMath. -/
import Derived.Test.YtoimmapdkapheaaRows
import Derived.WalkKit
import Derived.WalkSpells
import Derived.WalkLawsBesides
import Derived.BigQuiet
import Derived.Deep.QuietTactic
import Derived.Below
import Derived.Lib.IfaceEq
import Derived.Lib.IfaceNeq
import Derived.ProofKit
import Derived.OpenShut
import Derived.Deep.Slices
import Derived.OwnWalk
import Derived.Deep.AppendLies
import Derived.Laws.OwnMore
import Derived.Laws.IdiomCopy
import Derived.Deep.RegionHeld3
/- What every text of a seat may lean on: answers, frames, structs that lie as variables of their own. -/
namespace Go.Proofs.Ytoimmapdkapheaa
set_option maxRecDepth 4000
open Go.RowKit

theorem ret_bool {a b : Bool} (h : a = b) : Ending.returned (.bool a) = .returned (.bool b) := by rw [h]
theorem ret_int {k : IntKind} {a b : Int} (h : a = b) : Ending.returned (.int k a) = .returned (.int k b) := by rw [h]
theorem cell_alloc_old {w : World} {b : Nat} (h : b < w.heap.size) (o : Nat) (v : Obj) : (w.alloc v).cell? ⟨b, o, none⟩ = w.cell? ⟨b, o, none⟩ :=
  World.cell?_of_block (Below.heap_alloc w v b h)
theorem bcell {W w1 : World} (hb : Below W.heap.size W w1) : (∀ b o, b < W.heap.size → w1.cell? ⟨b, o, none⟩ = W.cell? ⟨b, o, none⟩) ∧ (∀ b o, b < W.heap.size → w1.frozen? ⟨b, o, none⟩ = W.frozen? ⟨b, o, none⟩) :=
  ⟨fun b o h => hb.cell (p := ⟨b, o, none⟩) h, fun b o h => hb.frozen (p := ⟨b, o, none⟩) h⟩
/-- The world behind a call that makes memory alone, all of it told from the first one. -/
theorem below_call {B : Nat} {a W w1 : World} (h : Below B a W) (hz : B ≤ W.heap.size) (hb : Below W.heap.size W w1) : Below B a w1 := h.trans (hb.mono hz)
theorem below_new {B : Nat} {a W w1 : World} {v : Obj} (h : Below B a W) (hz : B ≤ W.heap.size) (hb : Below (W.alloc v).heap.size (W.alloc v) w1) : Below B a w1 :=
  (h.alloc hz v).trans (hb.mono (by simp; omega))
theorem eq_err (n : Int) (w : World) : (binOp .eql 41 (.iface 48 (.int .i64 n)) (.iface 48 (.int .i64 n))).run Try.prog w = .ok (.bool true) w := by
  have := Lib.run_eql_iface_int (P := Try.prog) w (t := 41) (tx := 48) (k := .i64) n n Try.underlying41 (by kernel_rfl) Try.underlying48
  rw [beq_self_eq_true] at this
  exact this

/-- What holds below B behind a call that writes a row of the call's own. -/
theorem below_row {B : Nat} {a w w' : World} {s : Nat} (h : Below B a w) (hz : B ≤ w.heap.size) (hg : w.grownBy w' (some s)) (hs : B ≤ s) : Below B a w' :=
  h.grown hg hz fun k hk => by cases hk; exact hs

theorem below_call' {a W w1 : World} (h : Below a.heap.size a W) (hb : Below W.heap.size W w1) : Below a.heap.size a w1 := h.trans (hb.mono h.size)
theorem neq_err (n : Int) (w : World) : (binOp .neq 41 (.iface 48 (.int .i64 n)) (.iface 48 (.int .i64 n))).run Try.prog w = .ok (.bool false) w := by
  have := Lib.run_neq_iface_int (P := Try.prog) w (t := 41) (tx := 48) (k := .i64) n n Try.underlying41 (by kernel_rfl) Try.underlying48
  simpa using this
theorem frozen_alloc_old {w : World} {b : Nat} (h : b < w.heap.size) (o : Nat) (v : Obj) : (w.alloc v).frozen? ⟨b, o, none⟩ = w.frozen? ⟨b, o, none⟩ :=
  World.frozen?_of_block (Below.heap_alloc w v b h)
def Thaw (w : World) (b : Nat) : Prop := b < w.heap.size ∧ ∀ o, w.frozen? ⟨b, o, none⟩ = false
theorem Thaw.old {w : World} {b : Nat} (h : Thaw w b) (v : Obj) : Thaw (w.alloc v) b :=
  ⟨by simp; have := h.1; omega, fun o => by rw [frozen_alloc_old h.1]; exact h.2 o⟩
theorem Thaw.below {W w1 : World} {b : Nat} (h : Thaw W b) (hb : Below W.heap.size W w1) : Thaw w1 b :=
  ⟨by have := hb.size; have := h.1; omega, fun o => by rw [(bcell hb).2 b o h.1]; exact h.2 o⟩
theorem Thaw.rules {w : World} {b : Nat} (h : Thaw w b) : (∀ o v, (w.alloc v).frozen? ⟨b, o, none⟩ = w.frozen? ⟨b, o, none⟩) ∧ ∀ o, w.frozen? ⟨b, o, none⟩ = false :=
  ⟨fun o v => frozen_alloc_old h.1 o v, h.2⟩
theorem ne_of_tag {w : World} {a b : Nat} {c c' : Array Value} {t t' : TypeId} {fr fr' : Nat × Nat} (h : w.heap[a]? = some (.cells c t fr)) (h' : w.heap[b]? = some (.cells c' t' fr')) (ht : t ≠ t') : a ≠ b := by
  intro e
  subst e
  rw [h] at h'
  simp at h'
  exact ht h'.2.1
/-- A struct of cells cs that lies at block b. -/
def Laid (w : World) (b : Nat) (t : TypeId) (cs : Array Value) : Prop := w.heap[b]? = some (.cells cs t (0, 0))
theorem Laid.lt {w : World} {b : Nat} {t : TypeId} {cs : Array Value} (h : Laid w b t cs) : b < w.heap.size := (Array.getElem?_eq_some_iff.1 h).1
theorem Laid.below {w w' : World} {b : Nat} {t : TypeId} {cs : Array Value} (h : Laid w b t cs) (hb : Below w.heap.size w w') : Laid w' b t cs := (hb.block b h.lt).trans h
theorem Laid.kept {w w' : World} {b : Nat} {t : TypeId} {cs : Array Value} {row : Option Nat} (h : Laid w b t cs) (hg : w.grownBy w' row) (hr : some b ≠ row) : Laid w' b t cs := (hg.block b h.lt hr).trans h
theorem Laid.cell {w : World} {b : Nat} {t : TypeId} {cs : Array Value} (h : Laid w b t cs) (j : Nat) : w.cell? ⟨b, j, none⟩ = cs[j]? := cell_of_row w b j cs t (0, 0) h
theorem Laid.new (w : World) (t : TypeId) (cs : Array Value) : Laid (w.alloc (.cells cs t)) w.heap.size t cs := heap_alloc_new w _
end Go.Proofs.Ytoimmapdkapheaa
/- Arguments that are structs of plain cells, or lists of such: what a reading of them gives. -/
namespace Go.Proofs.Ytoimmapdkapheaa
set_option maxRecDepth 4000
open Go.ChangeShapes Go.WideShapes Go.ChangeAt Go.RowKit Go.Deep

/-- The cells of a list of len things of k cells each, as they lie at ao. -/
def Lst {α : Type} (cells : α → List Value) (ok : α → Prop) (k : Nat) (W : World) (ao : Option Addr) (len : Nat) (D : Nat → α) : Prop :=
  len = 0 ∨ ∃ b off, ao = some ⟨b, off, none⟩ ∧ b < W.heap.size ∧ ∀ i, i < len → ok (D i) ∧ ∀ j, j < k → W.cell? ⟨b, off + i * k + j, none⟩ = (cells (D i))[j]?

theorem Lst.below {α : Type} {cells : α → List Value} {ok : α → Prop} {k : Nat} {W w' : World} {ao : Option Addr} {len : Nat} {D : Nat → α} (h : Lst cells ok k W ao len D) (hb : Below W.heap.size W w') : Lst cells ok k w' ao len D := by
  rcases h with h | ⟨b, off, e, hlt, h⟩
  · exact Or.inl h
  · refine Or.inr ⟨b, off, e, Nat.lt_of_lt_of_le hlt hb.size, fun i hi => ⟨(h i hi).1, fun j hj => ?_⟩⟩
    rw [hb.cell (p := ⟨b, off + i * k + j, none⟩) hlt]
    exact (h i hi).2 j hj

theorem Lst.at {α : Type} {cells : α → List Value} {ok : α → Prop} {k : Nat} {W : World} {ao : Option Addr} {len : Nat} {D : Nat → α} (h : Lst cells ok k W ao len D) {i : Nat} (hi : i < len) :
    ∃ b off, ao = some ⟨b, off, none⟩ ∧ b < W.heap.size ∧ ∀ i, i < len → ok (D i) ∧ ∀ j, j < k → W.cell? ⟨b, off + i * k + j, none⟩ = (cells (D i))[j]? := by
  rcases h with h | h
  · omega
  · exact h

section
variable {H : Type} {enc : TypeId × Value → H} {P : Program} {w : World}

theorem open_list {α : Type} (dflt : α) (cells : α → List Value) (ok : α → Prop) (k : Nat) {t e : TypeId} (ht : P.underlying t = some (.slice e)) (ce : P.cellsOf e = k) (hk : 0 < k) (hlen : ∀ d, (cells d).length = k)
    (hopen : ∀ {fuel : Nat} {cs : List Value} {x : DataW H × List MemPlace}, DataW.trod enc P w 0 (fun _ => true) true fuel e cs = some x → cs.length = k → ∃ d, cs = cells d ∧ ok d)
    {r : Reach} {b0 : Nat} {v : Value} {d : DataW H} {ps : List MemPlace} (hval : Value.okWide P w r b0 t v) (hd : DataW.Trod enc P w 0 (fun _ => true) true t v d ps) :
    ∃ ao len cap D, v = .slice ao len cap ∧ len ≤ maxLen ∧ Lst cells ok k w ao len D := by
  obtain ⟨a0, len0, cap0, rfl⟩ := okWide_slice ht hval
  obtain ⟨fuel, hf⟩ := hd
  rcases open_slice ht hf with ⟨h0, _⟩ | ⟨a, len, cap, m, n, D, Pl, h0, hb, hl, hm, hmm, hx, hall⟩
  · simp [Value.cells] at h0
    obtain ⟨rfl, rfl, rfl⟩ := h0
    exact ⟨none, 0, 0, fun _ => dflt, rfl, Nat.zero_le _, Or.inl rfl⟩
  · simp [Value.cells] at h0
    obtain ⟨rfl, rfl, rfl⟩ := h0
    simp only [if_true] at hmm
    subst hmm
    by_cases hz : len0 = 0
    · exact ⟨some a, len0, m, fun _ => dflt, rfl, Nat.le_trans hl hm, Or.inl hz⟩
    have each : ∀ i, i < m → ∃ x : α, ok x ∧ ∀ j, j < k → w.cell? (a.add (i * k + j)) = (cells x)[j]? := by
      intro i hi
      obtain ⟨cs', h1, h2⟩ := hall i hi
      rw [ce] at h1
      obtain ⟨_, hlen', hcell⟩ := World.cells?_some h1
      obtain ⟨x, rfl, hok⟩ := hopen h2 hlen'
      exact ⟨x, hok, fun j hj => by rw [← add_add]; exact hcell j hj⟩
    obtain ⟨E, hE⟩ := @choose_lt α ⟨dflt⟩ m _ each
    have h00 := (hE 0 (by omega)).2 0 hk
    simp only [Nat.zero_mul, Nat.add_zero] at h00
    have ha : a.spot = none := by
      have hn : (cells (E 0))[0]? ≠ none := by
        intro q
        rw [List.getElem?_eq_none_iff, hlen] at q
        omega
      cases hs : a.spot with
      | none => rfl
      | some s =>
        exfalso
        apply hn
        rw [← h00]
        show World.cell? w (a.add 0) = none
        simp only [Addr.add, if_true, World.cell?]
        split
        · simp [hs]
        · rfl
    obtain ⟨b, off, sp⟩ := a
    simp only at ha
    subst ha
    have hadd : ∀ j, (⟨b, off, none⟩ : Addr).add j = ⟨b, off + j, none⟩ := fun j => Addr.add_lit _ _ _
    refine ⟨some ⟨b, off, none⟩, len0, m, E, rfl, Nat.le_trans hl hm, Or.inr ⟨b, off, rfl, ?_, fun i hi => ⟨(hE i (by omega)).1, fun j hj => ?_⟩⟩⟩
    · obtain ⟨u, hu⟩ : ∃ u, (cells (E 0))[0]? = some u := ⟨_, List.getElem?_eq_getElem (by rw [hlen]; exact hk)⟩
      rw [hu] at h00
      exact block_lt_of_cell h00
    · rw [Nat.add_assoc, ← hadd]
      exact (hE i (by omega)).2 j hj
end
end Go.Proofs.Ytoimmapdkapheaa
/- Rows of records of any kind: how they lie, what is read of them, appended and stored. No word of the program. -/
namespace Go.Proofs.Ytoimmapdkapheaa
set_option maxRecDepth 4000
open Go.RowKit

/-- A kind of record: its type, how many cells it has, and which. -/
structure Rec (α : Type) where
  t : TypeId
  n : Nat
  bytes : Nat
  zero : α
  cells : α → List Value
  len : ∀ x, (cells x).length = n
  npos : 0 < n
  one : ∀ x, ∀ u ∈ cells x, u.oneCell' = true

section
variable {α : Type} (R : Rec α)

def Rec.all (L : List α) : List Value := L.flatMap R.cells
theorem Rec.all_nil : R.all [] = [] := rfl
theorem Rec.all_append (L M : List α) : R.all (L ++ M) = R.all L ++ R.all M := by simp [Rec.all]
theorem Rec.all_one (x : α) : R.all [x] = R.cells x := by simp [Rec.all]
theorem Rec.all_snoc (L : List α) (x : α) : R.all (L ++ [x]) = R.all L ++ R.cells x := by simp [Rec.all]
theorem Rec.all_cons (x : α) (L : List α) : R.all (x :: L) = R.cells x ++ R.all L := by simp [Rec.all]
theorem Rec.all_len : ∀ L : List α, (R.all L).length = L.length * R.n
  | [] => by simp [Rec.all]
  | x :: L => by
    rw [R.all_cons, List.length_append, Rec.all_len L, List.length_cons, R.len, Nat.add_mul]
    omega
theorem Rec.all_oneCell (L : List α) : ∀ u ∈ R.all L, u.oneCell' = true := by
  intro u hu
  obtain ⟨x, _, hx⟩ := List.mem_flatMap.1 hu
  exact R.one x u hx
theorem Rec.all_at : ∀ (L : List α) (k j : Nat), k < L.length → j < R.n → (R.all L)[k * R.n + j]? = (R.cells (L.getD k R.zero))[j]? := by
  intro L
  induction L with
  | nil => intro k j hk; simp at hk
  | cons x L ih =>
    intro k j hk hj
    rw [R.all_cons]
    cases k with
    | zero =>
      rw [List.getElem?_append_left (by rw [R.len]; omega)]
      simp
    | succ k =>
      have e : (k + 1) * R.n + j = R.n + (k * R.n + j) := by rw [Nat.add_mul]; omega
      rw [e, List.getElem?_append_right (by rw [R.len]; omega), R.len, show R.n + (k * R.n + j) - R.n = k * R.n + j by omega, ih k j (by simpa using hk) hj]
      simp
theorem Rec.div_lt {L : List α} {j : Nat} (h : j < L.length * R.n) : j / R.n < L.length ∧ j % R.n < R.n ∧ j = j / R.n * R.n + j % R.n := by
  refine ⟨(Nat.div_lt_iff_lt_mul R.npos).2 h, Nat.mod_lt _ R.npos, ?_⟩
  have := Nat.div_add_mod j R.n
  rw [Nat.mul_comm] at this
  exact this.symm
theorem Rec.cell_some (x : α) {j : Nat} (hj : j < R.n) : ∃ u, (R.cells x)[j]? = some u := ⟨_, List.getElem?_eq_getElem (by rw [R.len]; exact hj)⟩

/-- A row that a call owns. -/
def Row (B : Nat) (w : World) (v : Value) (l : List α) : Prop := w.ownsRow B R.t R.n v l.length (R.all l)
/-- The cells of a record, at a place. -/
def At (w : World) (b o : Nat) (x : α) : Prop := ∀ j, j < R.n → w.cell? ⟨b, o + j, none⟩ = (R.cells x)[j]?
/-- A row that is only read, at any place of its block. -/
def Seen (w : World) (ao : Option Addr) (c : Nat) (l : List α) : Prop :=
  (ao = none → l = [] ∧ c = 0) ∧ ∀ ad, ao = some ad → ∃ g off, ad = ⟨g, off, none⟩ ∧ g < w.heap.size ∧ ∀ k, k < l.length → At R w g (off + k * R.n) (l.getD k R.zero)
end

section
variable {α : Type} {R : Rec α} {B : Nat} {w w' : World} {v : Value} {l : List α}

theorem Row.nil (R : Rec α) (B : Nat) (w : World) : Row R B w (.slice none 0 0) [] := World.ownsRow_nil _ _ _ _
theorem Row.cases (h : Row R B w v l) : (v = .slice none 0 0 ∧ l = []) ∨ ∃ g c cur, v = .slice (some ⟨g, 0, none⟩) l.length c ∧ B ≤ g ∧ g < w.heap.size ∧ w.heap[g]? = some (.cells cur R.t (0, 0)) ∧ l.length ≤ c ∧ c ≤ maxLen ∧ cur.size = c * R.n ∧ cur.toList.take (l.length * R.n) = R.all l := by
  rcases h.2 with ⟨rfl, h0⟩ | ⟨g, cap, cur, rfl, hb, hg, h1, h2, h3, ht⟩
  · exact Or.inl ⟨rfl, List.eq_nil_of_length_eq_zero h0⟩
  · exact Or.inr ⟨g, cap, cur, rfl, hb, (Array.getElem?_eq_some_iff.1 hg).1, hg, h1, h2, h3, ht⟩
theorem Row.form (h : Row R B w v l) : ∃ ao c, v = .slice ao l.length c := by
  rcases h.cases with ⟨rfl, rfl⟩ | ⟨g, c, cur, rfl, _⟩
  · exact ⟨none, 0, rfl⟩
  · exact ⟨_, _, rfl⟩
theorem Row.kept {row : Option Nat} (h : Row R B w v l) (hg : w.grownBy w' row) (hne : v.ownBlock = none ∨ v.ownBlock ≠ row) : Row R B w' v l := World.ownsRow.kept h hg hne
theorem Row.below (h : Row R B w v l) (hb : Below w.heap.size w w') : Row R B w' v l :=
  h.kept (row := none) ⟨hb.os, hb.tape, hb.output, hb.size, fun k hk _ => hb.block k hk⟩ (by cases v.ownBlock <;> simp)
theorem Row.lower {B' : Nat} (h : Row R B w v l) (hB : B' ≤ B) : Row R B' w v l := by
  refine ⟨h.1, ?_⟩
  rcases h.2 with h' | ⟨g, cap, cur, h1, h2, h3⟩
  · exact Or.inl h'
  · exact Or.inr ⟨g, cap, cur, h1, by omega, h3⟩
theorem Row.lt (h : Row R B w v l) : ∀ g, v.ownBlock = some g → B ≤ g ∧ g < w.heap.size := World.ownsRow.lt h
theorem Row.tag (h : Row R B w v l) {g : Nat} (hg : v.ownBlock = some g) : ∃ cur, w.heap[g]? = some (.cells cur R.t (0, 0)) := by
  rcases h.cases with ⟨rfl, rfl⟩ | ⟨g', c, cur, rfl, _, _, h1, _⟩
  · simp [Value.ownBlock] at hg
  · simp [Value.ownBlock] at hg
    subst hg
    exact ⟨cur, h1⟩
/-- What another block's change leaves. -/
theorem Row.same (h : Row R B w v l) (hb : ∀ g, v.ownBlock = some g → w'.heap[g]? = w.heap[g]?) : Row R B w' v l := by
  refine ⟨h.1, ?_⟩
  rcases h.2 with h' | ⟨g, cap, cur, rfl, h2, h3, h4⟩
  · exact Or.inl h'
  · exact Or.inr ⟨g, cap, cur, rfl, h2, (hb g rfl).trans h3, h4⟩
theorem row_cell {g : Nat} {cur : Array Value} (hg : w.heap[g]? = some (.cells cur R.t (0, 0))) (ht : cur.toList.take (l.length * R.n) = R.all l) {k : Nat} (hk : k < l.length) : At R w g (k * R.n) (l.getD k R.zero) := by
  intro j hj
  have hlt : k * R.n + j < l.length * R.n := by
    have : (k + 1) * R.n ≤ l.length * R.n := Nat.mul_le_mul_right _ hk
    rw [Nat.add_mul] at this
    omega
  rw [cell_of_row w g _ cur _ _ hg, ← R.all_at l k j hk hj, ← ht, List.getElem?_take_of_lt hlt, Array.getElem?_toList]
theorem Row.at {ao : Option Addr} {n c : Nat} (h : Row R B w (.slice ao n c) l) {k : Nat} (hk : k < l.length) : ∃ g, ao = some ⟨g, 0, none⟩ ∧ n = l.length ∧ B ≤ g ∧ g < w.heap.size ∧ l.length ≤ c ∧ c ≤ maxLen ∧ At R w g (k * R.n) (l.getD k R.zero) := by
  rcases h.cases with ⟨_, rfl⟩ | ⟨g, c', cur, hv, hB, hlt, hg, hlc, hcm, _, ht⟩
  · simp at hk
  · cases hv
    exact ⟨g, rfl, rfl, hB, hlt, hlc, hcm, row_cell hg ht hk⟩
theorem Row.seen {ao : Option Addr} {n c : Nat} (h : Row R B w (.slice ao n c) l) : n = l.length ∧ Seen R w ao c l := by
  rcases h.cases with ⟨e, rfl⟩ | ⟨g, c', cur, e, _, hlt, hg, _, _, _, ht⟩
  · cases e
    exact ⟨rfl, fun _ => ⟨rfl, rfl⟩, fun ad h => (by cases h)⟩
  · cases e
    refine ⟨rfl, fun h => (by cases h), fun ad e => ?_⟩
    cases e
    exact ⟨g, 0, rfl, hlt, fun k hk => by rw [Nat.zero_add]; exact row_cell hg ht hk⟩
theorem At.same {b o : Nat} {x : α} (h : At R w b o x) (hb : w'.heap[b]? = w.heap[b]?) : At R w' b o x := fun j hj => by
  rw [World.cell?_of_block (w := w) (w' := w') (a := ⟨b, o + j, none⟩) hb]
  exact h j hj
theorem Seen.same {ao : Option Addr} {c : Nat} (h : Seen R w ao c l) (hs : w.heap.size ≤ w'.heap.size) (hb : ∀ ad, ao = some ad → w'.heap[ad.block]? = w.heap[ad.block]?) : Seen R w' ao c l := by
  refine ⟨h.1, fun ad e => ?_⟩
  obtain ⟨g, off, rfl, hg, hc⟩ := h.2 ad e
  exact ⟨g, off, rfl, Nat.lt_of_lt_of_le hg hs, fun k hk => (hc k hk).same (hb _ e)⟩
theorem Seen.below {ao : Option Addr} {c : Nat} (h : Seen R w ao c l) (hb : Below w.heap.size w w') : Seen R w' ao c l :=
  h.same hb.size fun ad e => by
    obtain ⟨g, off, rfl, hg, _⟩ := h.2 ad e
    exact hb.block g hg
theorem Seen.news {ao : Option Addr} {c : Nat} (h : Seen R w ao c l) : ∀ ad, ao = some ad → ∀ j u, (R.all l)[j]? = some u → w.cell? (ad.add j) = some u := by
  intro ad e j u hj
  obtain ⟨g, off, rfl, _, hc⟩ := h.2 ad e
  have hjl : j < l.length * R.n := by
    have := (List.getElem?_eq_some_iff.1 hj).1
    rwa [R.all_len] at this
  obtain ⟨h1, h2, h3⟩ := R.div_lt hjl
  rw [Addr.add_lit, show off + j = off + j / R.n * R.n + j % R.n by omega, hc _ h1 _ h2, ← R.all_at l _ _ h1 h2, ← h3]
  exact hj
theorem Seen.one {b o : Nat} {x : α} (hb : b < w.heap.size) (h : At R w b o x) (c : Nat) : Seen R w (some ⟨b, o, none⟩) c [x] := by
  refine ⟨fun e => (by cases e), fun ad e => ?_⟩
  cases e
  refine ⟨b, o, rfl, hb, fun k hk => ?_⟩
  simp at hk
  subst hk
  simpa using h
/-- A record that lies as a block of its own. -/
theorem At.new (w : World) (x : α) (o : Obj) (ho : o = .cells (R.cells x).toArray R.t (0, 0)) : At R (w.alloc o) w.heap.size 0 x := by
  intro j hj
  subst ho
  rw [cell_of_row _ w.heap.size _ _ _ _ (heap_alloc_new w _), Nat.zero_add]
  simp
/-- A part of a row. -/
theorem Seen.part {g off c : Nat} (h : Seen R w (some ⟨g, off, none⟩) c l) (m n o c' : Nat) (hm : m + n ≤ l.length) (ho : n = 0 ∨ o = off + m * R.n) : Seen R w (some ⟨g, o, none⟩) c' ((l.drop m).take n) := by
  refine ⟨fun e => (by cases e), fun ad e => ?_⟩
  cases e
  obtain ⟨g', off', e, hg, hc⟩ := h.2 _ rfl
  cases e
  refine ⟨g, o, rfl, hg, fun k hk => ?_⟩
  have hk' : k < n ∧ k < l.length - m := by
    simp at hk
    omega
  rcases ho with rfl | rfl
  · omega
  · have h1 := hc (m + k) (by omega)
    have e2 : ((l.drop m).take n).getD k R.zero = l.getD (m + k) R.zero := by
      rw [List.getD_eq_getElem?_getD, List.getD_eq_getElem?_getD, List.getElem?_take_of_lt hk'.1, List.getElem?_drop]
    rw [e2, show off + m * R.n + k * R.n = off + (m + k) * R.n by rw [Nat.add_mul]; omega]
    exact h1
end

/-- What the program must say of a kind of record. -/
structure Kin (P : Program) {α : Type} (R : Rec α) (s : TypeId) : Prop where
  und : P.underlying s = some (.slice R.t)
  inf : ∃ i z, P.info? R.t = some i ∧ i.zero = some z ∧ i.size = R.n ∧ i.bytes = R.bytes ∧ z.cells.size = R.n
theorem Kin.of {P : Program} {α : Type} {R : Rec α} {s : TypeId} {z : Value} (hu : P.underlying s = some (.slice R.t)) (hi : (P.info? R.t).map (fun i => (i.zero, i.size, i.bytes)) = some (some z, R.n, R.bytes)) (hz : z.cells.size = R.n) : Kin P R s := by
  refine ⟨hu, ?_⟩
  cases h : P.info? R.t with
  | none => rw [h] at hi; simp at hi
  | some i =>
    rw [h] at hi
    simp at hi
    exact ⟨i, z, rfl, hi.1, hi.2.1, hi.2.2, hz⟩

section
variable {P : Program} {α : Type} {R : Rec α} {s : TypeId}

/-- 'append(xs, ys...)' -/
theorem run_app (k : Kin P R s) (w : World) (ty : TypeId) (B : Nat) (v : Value) (l1 l2 : List α) (h : Row R B w v l1) (ao : Option Addr) (c : Nat) (hs : Seen R w ao c l2) (hm : l1.length + l2.length ≤ maxLen) (hb : (l1.length + l2.length) * R.bytes ≤ 140737488355328) (hB : B ≤ w.heap.size) :
    ∃ v' w', (Builtin.append_ #[s, s] ty #[v, .slice ao l2.length c]).run P w = .ok v' w' ∧ Row R B w' v' (l1 ++ l2) ∧ w.grownBy w' v.ownBlock := by
  obtain ⟨i, z, hi, hz0, hz1, hz2, hzs⟩ := k.inf
  cases ao with
  | none =>
    obtain ⟨rfl, rfl⟩ := hs.1 rfl
    rw [List.append_nil]
    exact ⟨v, w, run_append_owned_none (P := P) w B s ty R.t i R.n k.und hi _ _ _ h, h, World.grownBy.refl _ _⟩
  | some ad =>
    obtain ⟨v', w', hr, h2, h3, h4⟩ := run_append_own (P := P) w B s ty R.t i z R.n R.bytes k.und hi hz0 hz1 hz2 hzs R.npos v l1.length (R.all l1) h ad l2.length c (R.all l2) (R.all_len l2) (hs.news ad rfl) (R.all_oneCell l2) hm hb hB
    refine ⟨v', w', hr, ?_, h3⟩
    unfold Row
    rw [R.all_append, List.length_append]
    exact h2
/-- .. at 'Oper.wp'. -/
theorem wp_app (k : Kin P R s) {o : Oper} {a : Act} {w : World} {K : Act → World → Prop} {Q : Exit → Act → World → Prop} (x y : Operand) (ho : o.op = .call { callee := .builtin .append, args := #[x, y], argTypes := #[s, s] })
    (B : Nat) (v : Value) (l1 l2 : List α) (hv : a.eval x = v) (h : Row R B w v l1) (ao : Option Addr) (n c : Nat) (hy : a.eval y = .slice ao n c) (hn : n = l2.length) (hs : Seen R w ao c l2) (hm : l1.length + l2.length ≤ maxLen) (hb : (l1.length + l2.length) * R.bytes ≤ 140737488355328) (hB : B ≤ w.heap.size)
    (hK : ∀ v' w', Row R B w' v' (l1 ++ l2) → w.grownBy w' v.ownBlock → K (a.put o.dst v') w') : Oper.wp P o a w K Q := by
  subst hn
  obtain ⟨v', w', hr, h2, h3⟩ := run_app k w o.type B v l1 l2 h ao c hs hm hb hB
  unfold Oper.wp execOp
  simp only [ho, resolve, invoke, builtin, Sem.run_bind, Sem.run_pure, Result.andThen_ok, List.map_toArray, List.map_cons, List.map_nil, hv, hy, hr]
  exact hK v' w' h2 h3
/-- .. at a step of a region that draws. -/
theorem step_app (k : Kin P R s) {ops : Array Oper} {o : Oper} {a : Act} {w : World} {K : Act → World → Prop} {Q : Exit → Act → World → Prop} {E : Prop} (hg : o.guard = none) (x y : Operand) (ho : o.op = .call { callee := .builtin .append, args := #[x, y], argTypes := #[s, s] })
    (B : Nat) (v : Value) (l1 l2 : List α) (hv : a.eval x = v) (h : Row R B w v l1) (ao : Option Addr) (n c : Nat) (hy : a.eval y = .slice ao n c) (hn : n = l2.length) (hs : Seen R w ao c l2) (hm : l1.length + l2.length ≤ maxLen) (hb : (l1.length + l2.length) * R.bytes ≤ 140737488355328) (hB : B ≤ w.heap.size)
    (hK : ∀ v' w', Row R B w' v' (l1 ++ l2) → w.grownBy w' v.ownBlock → K (a.put o.dst v') w') : if Region.wanted o (yielded ops a.tmps) = true then Oper.wp P o a w K Q else E := by
  rw [if_pos (show Region.wanted o (yielded ops a.tmps) = true by simp [Region.wanted, hg])]
  exact wp_app k x y ho B v l1 l2 hv h ao n c hy hn hs hm hb hB hK
/-- .. in a region that doesn't. -/
theorem list_app (k : Kin P R s) {ops : Array Oper} {rest : List Oper} {o : Oper} {a : Act} {w : World} {Q : Exit → Act → World → Prop} (hg : o.guard = none) (x y : Operand) (ho : o.op = .call { callee := .builtin .append, args := #[x, y], argTypes := #[s, s] })
    (B : Nat) (v : Value) (l1 l2 : List α) (hv : a.eval x = v) (h : Row R B w v l1) (ao : Option Addr) (n c : Nat) (hy : a.eval y = .slice ao n c) (hn : n = l2.length) (hs : Seen R w ao c l2) (hm : l1.length + l2.length ≤ maxLen) (hb : (l1.length + l2.length) * R.bytes ≤ 140737488355328) (hB : B ≤ w.heap.size)
    (hK : ∀ v' w', Row R B w' v' (l1 ++ l2) → w.grownBy w' v.ownBlock → wpList P ops Q rest (a.put o.dst v') w') : wpList P ops Q (o :: rest) a w :=
  wpList_plain hg fun _ hK' => wp_app k x y ho B v l1 l2 hv h ao n c hy hn hs hm hb hB fun v' w' h2 h3 => hK' _ _ (hK v' w' h2 h3)
end
end Go.Proofs.Ytoimmapdkapheaa
/- Rows of records: what is stored into one; what a call leaves as it was. No word of the program. -/
namespace Go.Proofs.Ytoimmapdkapheaa
set_option maxRecDepth 4000
open Go.RowKit

/-- All but the blocks of s stays as it was. -/
structure Keeps (w w' : World) (s : Nat → Prop) : Prop where
  os : w'.os = w.os
  tape : w'.tape = w.tape
  output : w'.output = w.output
  size : w.heap.size ≤ w'.heap.size
  block : ∀ b, b < w.heap.size → ¬ s b → w'.heap[b]? = w.heap[b]?
section
variable {a w w' w'' : World} {s s' : Nat → Prop}
theorem Keeps.refl (w : World) (s : Nat → Prop) : Keeps w w s := ⟨rfl, rfl, rfl, Nat.le_refl _, fun _ _ _ => rfl⟩
theorem Keeps.of_below (h : Below w.heap.size w w') (s : Nat → Prop) : Keeps w w' s := ⟨h.os, h.tape, h.output, h.size, fun b hb _ => h.block b hb⟩
theorem Keeps.of_grown {row : Option Nat} (h : w.grownBy w' row) : Keeps w w' (fun b => row = some b) := ⟨h.os, h.tape, h.output, h.size, fun b hb hn => h.block b hb fun e => hn e.symm⟩
theorem Keeps.mono (h : Keeps w w' s) (hs : ∀ b, b < w.heap.size → s b → s' b) : Keeps w w' s' := ⟨h.os, h.tape, h.output, h.size, fun b hb hn => h.block b hb fun e => hn (hs b hb e)⟩
theorem Keeps.trans (h : Keeps w w' s) (h' : Keeps w' w'' s') (hs : ∀ b, b < w.heap.size → s' b → s b) : Keeps w w'' s :=
  ⟨h'.os.trans h.os, h'.tape.trans h.tape, h'.output.trans h.output, Nat.le_trans h.size h'.size, fun b hb hn => (h'.block b (Nat.lt_of_lt_of_le hb h.size) fun e => hn (hs b hb e)).trans (h.block b hb hn)⟩
theorem Keeps.below {B : Nat} (h : Keeps w w' s) (hB : B ≤ w.heap.size) (hs : ∀ b, b < w.heap.size → s b → B ≤ b) : Below B w w' :=
  ⟨h.os, h.tape, h.output, h.size, fun b hb => h.block b (by omega) fun e => by have := hs b (by omega) e; omega⟩
theorem Keeps.cell (h : Keeps w w' s) {b : Nat} (hb : b < w.heap.size) (hn : ¬ s b) (o : Nat) : w'.cell? ⟨b, o, none⟩ = w.cell? ⟨b, o, none⟩ := World.cell?_of_block (h.block b hb hn)
theorem Keeps.frozen (h : Keeps w w' s) {b : Nat} (hb : b < w.heap.size) (hn : ¬ s b) (o : Nat) : w'.frozen? ⟨b, o, none⟩ = w.frozen? ⟨b, o, none⟩ := World.frozen?_of_block (h.block b hb hn)
theorem Keeps.set (w : World) (g o : Nat) (v : Value) : Keeps w (w.setCell ⟨g, o, none⟩ v) (fun b => b = g) := ⟨rfl, rfl, rfl, by simp, fun k hk hne => heap_setCell_other w _ k v (fun e => hne e)⟩
theorem Keeps.sets : ∀ (vs : List Value) (w : World) (g o : Nat), Keeps w (w.setCells g o vs) (fun b => b = g)
  | [], w, _, _ => Keeps.refl w _
  | v :: r, w, g, o => (Keeps.set w g o v).trans (Keeps.sets r (w.setCell ⟨g, o, none⟩ v) g (o + 1)) fun _ _ h => h
theorem Keeps.row {α : Type} {R : Rec α} {B : Nat} {v : Value} {l : List α} (h : Keeps w w' s) (hr : Row R B w v l) (hn : ∀ g, v.ownBlock = some g → ¬ s g) : Row R B w' v l :=
  hr.same fun g hg => h.block g (hr.lt g hg).2 (hn g hg)
theorem Keeps.at {α : Type} {R : Rec α} {b o : Nat} {x : α} (h : Keeps w w' s) (hr : At R w b o x) (hb : b < w.heap.size) (hn : ¬ s b) : At R w' b o x := hr.same (h.block b hb hn)
theorem Keeps.seen {α : Type} {R : Rec α} {ao : Option Addr} {c : Nat} {l : List α} (h : Keeps w w' s) (hr : Seen R w ao c l) (hn : ∀ ad, ao = some ad → ¬ s ad.block) : Seen R w' ao c l :=
  hr.same h.size fun ad e => by
    obtain ⟨g, off, rfl, hg, _⟩ := hr.2 ad e
    exact h.block g hg (hn _ e)
end

/-- Cells written one behind the other. -/
def wrs (cur : Array Value) : Nat → List Value → Array Value
  | _, [] => cur
  | o, v :: r => wrs (cur.setIfInBounds o v) (o + 1) r
theorem wrs_size : ∀ (vs : List Value) (cur : Array Value) (o : Nat), (wrs cur o vs).size = cur.size
  | [], _, _ => rfl
  | v :: r, cur, o => by rw [wrs, wrs_size r]; simp
theorem wrs_out : ∀ (vs : List Value) (cur : Array Value) (o j : Nat), (j < o ∨ o + vs.length ≤ j) → (wrs cur o vs)[j]? = cur[j]?
  | [], _, _, _, _ => rfl
  | v :: r, cur, o, j, h => by
    rw [wrs, wrs_out r _ _ j (by simp at h; omega), Array.getElem?_setIfInBounds_ne (by simp at h; omega)]
theorem wrs_in : ∀ (vs : List Value) (cur : Array Value) (o j : Nat), j < vs.length → o + vs.length ≤ cur.size → (wrs cur o vs)[o + j]? = vs[j]?
  | [], _, _, _, hj, _ => by simp at hj
  | v :: r, cur, o, 0, _, hs => by
    rw [wrs, wrs_out r _ _ _ (Or.inl (by omega))]
    have : o < cur.size := by simp at hs; omega
    simp [this]
  | v :: r, cur, o, j + 1, hj, hs => by
    rw [wrs, show o + (j + 1) = o + 1 + j by omega, wrs_in r _ (o + 1) j (by simpa using hj) (by simp at hs ⊢; omega)]
    simp
theorem heap_sets : ∀ (vs : List Value) (w : World) (g o : Nat) (cur : Array Value) (t : TypeId), w.heap[g]? = some (.cells cur t (0, 0)) → (w.setCells g o vs).heap[g]? = some (.cells (wrs cur o vs) t (0, 0))
  | [], _, _, _, _, _, h => h
  | v :: r, w, g, o, cur, t, h => by
    rw [World.setCells, wrs]
    exact heap_sets r _ g (o + 1) _ t (heap_setCell_same w g o cur t v h)

section
variable {α : Type} {R : Rec α} {B : Nat} {w : World} {l : List α}
/-- A row told by its cells. -/
theorem Row.of_cells {w' : World} {g c : Nat} {cur : Array Value} {l' : List α} (hB : B ≤ g) (hg : w'.heap[g]? = some (.cells cur R.t (0, 0))) (hl : l'.length ≤ c) (hc : c ≤ maxLen) (hs : cur.size = c * R.n) (h : ∀ k, k < l'.length → ∀ j, j < R.n → cur[k * R.n + j]? = (R.cells (l'.getD k R.zero))[j]?) : Row R B w' (.slice (some ⟨g, 0, none⟩) l'.length c) l' := by
  refine ⟨R.all_len l', Or.inr ⟨g, c, cur, rfl, hB, hg, hl, hc, hs, ?_⟩⟩
  apply List.ext_getElem?
  intro n
  by_cases hn : n < l'.length * R.n
  · rw [List.getElem?_take_of_lt hn, Array.getElem?_toList]
    obtain ⟨h1, h2, h3⟩ := R.div_lt hn
    rw [h3, R.all_at l' _ _ h1 h2]
    exact h _ h1 _ h2
  · rw [List.getElem?_eq_none (by simp; omega), List.getElem?_eq_none (by rw [R.all_len]; omega)]
theorem Row.cur {g n c : Nat} (h : Row R B w (.slice (some ⟨g, 0, none⟩) n c) l) : n = l.length ∧ B ≤ g ∧ g < w.heap.size ∧ ∃ cur : Array Value, w.heap[g]? = some (.cells cur R.t (0, 0)) ∧ l.length ≤ c ∧ c ≤ maxLen ∧ cur.size = c * R.n ∧ ∀ k, k < l.length → ∀ j, j < R.n → cur[k * R.n + j]? = (R.cells (l.getD k R.zero))[j]? := by
  rcases h.cases with ⟨e, _⟩ | ⟨g', c', cur, e, hB, hlt, hg, hlc, hcm, hs, ht⟩
  · cases e
  · cases e
    refine ⟨rfl, hB, hlt, cur, hg, hlc, hcm, hs, fun k hk j hj => ?_⟩
    have := row_cell (R := R) hg ht hk j hj
    rwa [cell_of_row w g _ cur _ _ hg] at this
/-- Cells stored within one of them: it is another one. -/
theorem Row.sets {g n c : Nat} (h : Row R B w (.slice (some ⟨g, 0, none⟩) n c) l) (i o : Nat) (vs : List Value) (x : α) (hi : i < l.length) (ho : o + vs.length ≤ R.n)
    (h1 : ∀ j, j < vs.length → (R.cells x)[o + j]? = vs[j]?) (h2 : ∀ j, j < R.n → (j < o ∨ o + vs.length ≤ j) → (R.cells x)[j]? = (R.cells (l.getD i R.zero))[j]?) : Row R B (w.setCells g (i * R.n + o) vs) (.slice (some ⟨g, 0, none⟩) n c) (l.set i x) := by
  obtain ⟨rfl, hB, _, cur, hg, hlc, hcm, hs, hc⟩ := h.cur
  have hin : (i + 1) * R.n ≤ c * R.n := Nat.mul_le_mul_right _ (by omega)
  rw [Nat.add_mul] at hin
  have key := Row.of_cells (R := R) (B := B) (l' := l.set i x) (c := c) hB (heap_sets vs w g (i * R.n + o) cur R.t hg) (by simpa using hlc) hcm (by rw [wrs_size]; exact hs) (by
    intro k hk j hj
    have hk' : k < l.length := by simpa using hk
    by_cases hki : k = i
    · subst hki
      rw [List.getD_eq_getElem?_getD, List.getElem?_set_self hk', Option.getD_some]
      by_cases hjo : j < o ∨ o + vs.length ≤ j
      · rw [wrs_out _ _ _ _ (by omega), hc k hk' j hj, h2 j hj hjo]
      · obtain ⟨t, rfl⟩ : ∃ t, j = o + t := ⟨j - o, by omega⟩
        rw [← Nat.add_assoc, wrs_in vs cur (k * R.n + o) t (by omega) (by omega), h1 t (by omega)]
    · have hmul : k * R.n + j < i * R.n ∨ i * R.n + R.n ≤ k * R.n + j := by
        rcases Nat.lt_or_gt_of_ne hki with h' | h'
        · have : (k + 1) * R.n ≤ i * R.n := Nat.mul_le_mul_right _ h'
          rw [Nat.add_mul] at this
          omega
        · have : (i + 1) * R.n ≤ k * R.n := Nat.mul_le_mul_right _ h'
          rw [Nat.add_mul] at this
          omega
      rw [wrs_out _ _ _ _ (by omega), hc k hk' j hj, List.getD_eq_getElem?_getD, List.getD_eq_getElem?_getD, List.getElem?_set_ne (Ne.symm hki)])
  simpa using key
/-- One is stored over another one. -/
theorem Row.put {g n c : Nat} (h : Row R B w (.slice (some ⟨g, 0, none⟩) n c) l) (i : Nat) (x : α) (hi : i < l.length) : Row R B (w.setCells g (i * R.n) (R.cells x)) (.slice (some ⟨g, 0, none⟩) n c) (l.set i x) := by
  have := h.sets i 0 (R.cells x) x hi (by rw [R.len]; omega) (fun j _ => by rw [Nat.zero_add]) (fun j hj hn => by rw [R.len] at hn; omega)
  simpa using this
/-- One of its cells is stored. -/
theorem Row.put1 {g n c : Nat} (h : Row R B w (.slice (some ⟨g, 0, none⟩) n c) l) (i o : Nat) (u : Value) (x : α) (hi : i < l.length) (ho : o < R.n) (hx : R.cells x = (R.cells (l.getD i R.zero)).set o u) : Row R B (w.setCell ⟨g, i * R.n + o, none⟩ u) (.slice (some ⟨g, 0, none⟩) n c) (l.set i x) := by
  have := h.sets i o [u] x hi (by simp; omega) (fun j hj => by
    obtain rfl : j = 0 := by simpa using hj
    rw [hx, Nat.add_zero, List.getElem?_set_self (by rw [R.len]; exact ho)]
    rfl) (fun j hj hn => by rw [hx, List.getElem?_set_ne (by simp at hn; omega)])
  exact this
theorem Row.frozen {g n c : Nat} (h : Row R B w (.slice (some ⟨g, 0, none⟩) n c) l) (j : Nat) : w.frozen? ⟨g, j, none⟩ = false := by
  obtain ⟨_, _, _, cur, hg, _⟩ := h.cur
  exact frozen_of_row w g j cur _ hg
end
end Go.Proofs.Ytoimmapdkapheaa
/- ARt: a struct api.Rights as it lies in cells, and what a reading of it gives. -/
namespace Go.Proofs.Ytoimmapdkapheaa
set_option maxRecDepth 4000
open Go.ChangeShapes Go.WideShapes Go.ChangeAt Go.RowKit Go.Deep

structure ARt where
  w : Bool
  x : Bool
def ARt.zero : ARt := ⟨false, false⟩
def ARt.cells (d : ARt) : List Value := [.bool d.w, .bool d.x]
def ARt.ok (_ : ARt) : Prop := True
theorem ARt.len (d : ARt) : d.cells.length = 2 := rfl
theorem cellsOf_ARt : Try.prog.cellsOf 31 = 2 := by kernel_rfl

section
variable {H : Type} {enc : TypeId × Value → H} {w : World} {base : Nat} {spare : Nat → Bool} {held : Bool}
theorem trod_ARt {fuel : Nat} {cs : List Value} {x : DataW H × List MemPlace} (hf : DataW.trod enc Try.prog w base spare held fuel 31 cs = some x) (hl : cs.length = 2) : ∃ d : ARt, cs = d.cells ∧ d.ok := by
  obtain ⟨xs, n, _, hx, _, hlen, h⟩ := DataW.trod_struct Try.underlying31 hf
  match cs, hl, xs, hlen with
  | [c0, c1], _, [x0, x1], _ =>
    have z0 : Try.prog.cellsOf 4 = 1 := by kernel_rfl
    have h0 := h 0 _ rfl
    simp [z0] at h0
    obtain ⟨a0, e0, _⟩ := DataW.trod_bool Try.underlying4 h0
    simp only [List.cons.injEq, and_true] at e0
    subst e0
    have h1 := h 1 _ rfl
    simp [z0] at h1
    obtain ⟨a1, e1, _⟩ := DataW.trod_bool Try.underlying4 h1
    simp only [List.cons.injEq, and_true] at e1
    subst e1
    exact ⟨⟨a0, a1⟩, rfl, trivial⟩

theorem open_ARt {r : Reach} {b0 : Nat} {v : Value} {d : DataW H} {ps : List MemPlace} (hval : Value.okWide Try.prog w r b0 31 v) (hd : DataW.Trod enc Try.prog w base spare held 31 v d ps) :
    ∃ a : ARt, v = .agg a.cells.toArray ∧ a.ok := by
  obtain ⟨cs, rfl, hs⟩ := okWide_struct Try.underlying31 hval
  rw [cellsOf_ARt] at hs
  obtain ⟨l⟩ := cs
  obtain ⟨fuel, hf⟩ := hd
  obtain ⟨a, e, h⟩ := trod_ARt (cs := l) (by simpa [Value.cells] using hf) (by simpa using hs)
  exact ⟨a, by rw [e], h⟩
end

theorem ARt.cells_eq (d : ARt) : d.cells = [.bool d.w, .bool d.x] := rfl
theorem ARt.one (d : ARt) : ∀ u ∈ d.cells, u.oneCell' = true := by
  intro u hu
  rw [ARt.cells_eq] at hu
  simp only [List.mem_cons, List.not_mem_nil, or_false] at hu
  rcases hu with rfl | rfl <;> rfl
def rARt : Rec ARt := ⟨31, 2, 2, ARt.zero, ARt.cells, ARt.len, by decide, ARt.one⟩
theorem ARt.at {w : World} {b o : Nat} {d : ARt} (h : At rARt w b o d) : w.cell? ⟨b, o, none⟩ = some (.bool d.w) ∧ w.cell? ⟨b, o + 1, none⟩ = some (.bool d.x) :=
  ⟨h 0 (by decide), h 1 (by decide)⟩
def ARt.arr (d : ARt) : Array Value := #[.bool d.w, .bool d.x]
theorem ARt.laid {w : World} {b : Nat} {d : ARt} (h : Laid w b 31 d.arr) : w.cell? ⟨b, 0, none⟩ = some (.bool d.w) ∧ w.cell? ⟨b, 1, none⟩ = some (.bool d.x) :=
  ⟨h.cell 0, h.cell 1⟩
theorem ARt.lst {w W : World} {ao : Option Addr} {len : Nat} {D : Nat → ARt} (h : Lst ARt.cells ARt.ok 2 w ao len D) (hb : Below w.heap.size w W) {i : Nat} (hi : i < len) : ∃ b off, ao = some ⟨b, off, none⟩ ∧ b < w.heap.size ∧ (D i).ok ∧ At rARt W b (off + i * 2) (D i) := by
  obtain ⟨b, off, e, hlt, hall⟩ := h.at hi
  obtain ⟨hok, hc⟩ := hall i hi
  exact ⟨b, off, e, hlt, hok, fun j hj => ((bcell hb).1 b _ hlt).trans (hc j hj)⟩
end Go.Proofs.Ytoimmapdkapheaa
/- FDd: a struct paviorlaw10.Deed as it lies in cells, and what a reading of it gives. -/
namespace Go.Proofs.Ytoimmapdkapheaa
set_option maxRecDepth 4000
open Go.ChangeShapes Go.WideShapes Go.ChangeAt Go.RowKit Go.Deep

structure FDd where
  what : Int
  space : Int
  other : Int
  from_ : Int
  to_ : Int
  rt : ARt
  huge : Bool
  i : Int
  v : Nat
def FDd.zero : FDd := ⟨0, 0, 0, 0, 0, ARt.zero, false, 0, 0⟩
def FDd.cells (d : FDd) : List Value := [.int .i64 d.what] ++ [.int .i64 d.space] ++ [.int .i64 d.other] ++ [.int .i64 d.from_] ++ [.int .i64 d.to_] ++ ARt.cells d.rt ++ [.bool d.huge] ++ [.int .i64 d.i] ++ [.int .u64 d.v]
def FDd.ok (d : FDd) : Prop := (-9223372036854775808 ≤ d.what ∧ d.what ≤ 9223372036854775807) ∧ (-9223372036854775808 ≤ d.space ∧ d.space ≤ 9223372036854775807) ∧ (-9223372036854775808 ≤ d.other ∧ d.other ≤ 9223372036854775807) ∧ (-9223372036854775808 ≤ d.from_ ∧ d.from_ ≤ 9223372036854775807) ∧ (-9223372036854775808 ≤ d.to_ ∧ d.to_ ≤ 9223372036854775807) ∧ ARt.ok d.rt ∧ (-9223372036854775808 ≤ d.i ∧ d.i ≤ 9223372036854775807) ∧ (d.v ≤ 18446744073709551615)
theorem FDd.len (d : FDd) : d.cells.length = 10 := by simp [FDd.cells, ARt.len]
theorem cellsOf_FDd : Try.prog.cellsOf 34 = 10 := by kernel_rfl

section
variable {H : Type} {enc : TypeId × Value → H} {w : World} {base : Nat} {spare : Nat → Bool} {held : Bool}
theorem trod_FDd {fuel : Nat} {cs : List Value} {x : DataW H × List MemPlace} (hf : DataW.trod enc Try.prog w base spare held fuel 34 cs = some x) (hl : cs.length = 10) : ∃ d : FDd, cs = d.cells ∧ d.ok := by
  obtain ⟨xs, n, _, hx, _, hlen, h⟩ := DataW.trod_struct Try.underlying34 hf
  match cs, hl, xs, hlen with
  | [c0, c1, c2, c3, c4, c5, c6, c7, c8, c9], _, [x0, x1, x2, x3, x4, x5, x6, x7, x8], _ =>
    have z0 : Try.prog.cellsOf 31 = 2 := by kernel_rfl
    have z1 : Try.prog.cellsOf 4 = 1 := by kernel_rfl
    have z2 : Try.prog.cellsOf 3 = 1 := by kernel_rfl
    have z3 : Try.prog.cellsOf 32 = 1 := by kernel_rfl
    have h0 := h 0 _ rfl
    simp [z2] at h0
    obtain ⟨a0, e0, _, g0⟩ := DataW.trod_int Try.underlying3 h0
    simp only [List.cons.injEq, and_true] at e0
    subst e0
    have h1 := h 1 _ rfl
    simp [z2] at h1
    obtain ⟨a1, e1, _, g1⟩ := DataW.trod_int Try.underlying3 h1
    simp only [List.cons.injEq, and_true] at e1
    subst e1
    have h2 := h 2 _ rfl
    simp [z2] at h2
    obtain ⟨a2, e2, _, g2⟩ := DataW.trod_int Try.underlying3 h2
    simp only [List.cons.injEq, and_true] at e2
    subst e2
    have h3 := h 3 _ rfl
    simp [z2] at h3
    obtain ⟨a3, e3, _, g3⟩ := DataW.trod_int Try.underlying3 h3
    simp only [List.cons.injEq, and_true] at e3
    subst e3
    have h4 := h 4 _ rfl
    simp [z2] at h4
    obtain ⟨a4, e4, _, g4⟩ := DataW.trod_int Try.underlying3 h4
    simp only [List.cons.injEq, and_true] at e4
    subst e4
    have h5 := h 5 _ rfl
    simp [z0] at h5
    obtain ⟨a5, e5, g5⟩ := trod_ARt h5 rfl
    have h6 := h 6 _ rfl
    simp [z1] at h6
    obtain ⟨a6, e6, _⟩ := DataW.trod_bool Try.underlying4 h6
    simp only [List.cons.injEq, and_true] at e6
    subst e6
    have h7 := h 7 _ rfl
    simp [z2] at h7
    obtain ⟨a7, e7, _, g7⟩ := DataW.trod_int Try.underlying3 h7
    simp only [List.cons.injEq, and_true] at e7
    subst e7
    have h8 := h 8 _ rfl
    simp [z3] at h8
    obtain ⟨a8, e8, _, g8⟩ := DataW.trod_int Try.underlying32 h8
    simp only [List.cons.injEq, and_true] at e8
    subst e8
    have b8 := bounds_u64 g8
    obtain ⟨m8, rfl⟩ : ∃ m : Nat, a8 = m := ⟨a8.toNat, by omega⟩
    refine ⟨⟨a0, a1, a2, a3, a4, a5, a6, a7, m8⟩, ?_, ⟨(bounds_i64 g0), (bounds_i64 g1), (bounds_i64 g2), (bounds_i64 g3), (bounds_i64 g4), g5, (bounds_i64 g7), (by show m8 ≤ 18446744073709551615; omega)⟩⟩
    simp only [FDd.cells, ← e5, List.cons_append, List.nil_append]

theorem open_FDd {r : Reach} {b0 : Nat} {v : Value} {d : DataW H} {ps : List MemPlace} (hval : Value.okWide Try.prog w r b0 34 v) (hd : DataW.Trod enc Try.prog w base spare held 34 v d ps) :
    ∃ a : FDd, v = .agg a.cells.toArray ∧ a.ok := by
  obtain ⟨cs, rfl, hs⟩ := okWide_struct Try.underlying34 hval
  rw [cellsOf_FDd] at hs
  obtain ⟨l⟩ := cs
  obtain ⟨fuel, hf⟩ := hd
  obtain ⟨a, e, h⟩ := trod_FDd (cs := l) (by simpa [Value.cells] using hf) (by simpa using hs)
  exact ⟨a, by rw [e], h⟩
end

theorem FDd.cells_eq (d : FDd) : d.cells = [.int .i64 d.what, .int .i64 d.space, .int .i64 d.other, .int .i64 d.from_, .int .i64 d.to_, .bool d.rt.w, .bool d.rt.x, .bool d.huge, .int .i64 d.i, .int .u64 d.v] := rfl
theorem FDd.one (d : FDd) : ∀ u ∈ d.cells, u.oneCell' = true := by
  intro u hu
  rw [FDd.cells_eq] at hu
  simp only [List.mem_cons, List.not_mem_nil, or_false] at hu
  rcases hu with rfl | rfl | rfl | rfl | rfl | rfl | rfl | rfl | rfl | rfl <;> rfl
def rFDd : Rec FDd := ⟨34, 10, 64, FDd.zero, FDd.cells, FDd.len, by decide, FDd.one⟩
theorem FDd.kin : Kin Try.prog rFDd 22 := Kin.of (z := .agg #[.int .i64 0, .int .i64 0, .int .i64 0, .int .i64 0, .int .i64 0, .bool false, .bool false, .bool false, .int .i64 0, .int .u64 0]) Try.underlying22 (by kernel_rfl) rfl
theorem FDd.at {w : World} {b o : Nat} {d : FDd} (h : At rFDd w b o d) : w.cell? ⟨b, o, none⟩ = some (.int .i64 d.what) ∧ w.cell? ⟨b, o + 1, none⟩ = some (.int .i64 d.space) ∧ w.cell? ⟨b, o + 2, none⟩ = some (.int .i64 d.other) ∧ w.cell? ⟨b, o + 3, none⟩ = some (.int .i64 d.from_) ∧ w.cell? ⟨b, o + 4, none⟩ = some (.int .i64 d.to_) ∧ w.cell? ⟨b, o + 5, none⟩ = some (.bool d.rt.w) ∧ w.cell? ⟨b, o + 6, none⟩ = some (.bool d.rt.x) ∧ w.cell? ⟨b, o + 7, none⟩ = some (.bool d.huge) ∧ w.cell? ⟨b, o + 8, none⟩ = some (.int .i64 d.i) ∧ w.cell? ⟨b, o + 9, none⟩ = some (.int .u64 d.v) :=
  ⟨h 0 (by decide), h 1 (by decide), h 2 (by decide), h 3 (by decide), h 4 (by decide), h 5 (by decide), h 6 (by decide), h 7 (by decide), h 8 (by decide), h 9 (by decide)⟩
def FDd.arr (d : FDd) : Array Value := #[.int .i64 d.what, .int .i64 d.space, .int .i64 d.other, .int .i64 d.from_, .int .i64 d.to_, .bool d.rt.w, .bool d.rt.x, .bool d.huge, .int .i64 d.i, .int .u64 d.v]
theorem FDd.laid {w : World} {b : Nat} {d : FDd} (h : Laid w b 34 d.arr) : w.cell? ⟨b, 0, none⟩ = some (.int .i64 d.what) ∧ w.cell? ⟨b, 1, none⟩ = some (.int .i64 d.space) ∧ w.cell? ⟨b, 2, none⟩ = some (.int .i64 d.other) ∧ w.cell? ⟨b, 3, none⟩ = some (.int .i64 d.from_) ∧ w.cell? ⟨b, 4, none⟩ = some (.int .i64 d.to_) ∧ w.cell? ⟨b, 5, none⟩ = some (.bool d.rt.w) ∧ w.cell? ⟨b, 6, none⟩ = some (.bool d.rt.x) ∧ w.cell? ⟨b, 7, none⟩ = some (.bool d.huge) ∧ w.cell? ⟨b, 8, none⟩ = some (.int .i64 d.i) ∧ w.cell? ⟨b, 9, none⟩ = some (.int .u64 d.v) :=
  ⟨h.cell 0, h.cell 1, h.cell 2, h.cell 3, h.cell 4, h.cell 5, h.cell 6, h.cell 7, h.cell 8, h.cell 9⟩
theorem FDd.lst {w W : World} {ao : Option Addr} {len : Nat} {D : Nat → FDd} (h : Lst FDd.cells FDd.ok 10 w ao len D) (hb : Below w.heap.size w W) {i : Nat} (hi : i < len) : ∃ b off, ao = some ⟨b, off, none⟩ ∧ b < w.heap.size ∧ (D i).ok ∧ At rFDd W b (off + i * 10) (D i) := by
  obtain ⟨b, off, e, hlt, hall⟩ := h.at hi
  obtain ⟨hok, hc⟩ := hall i hi
  exact ⟨b, off, e, hlt, hok, fun j hj => ((bcell hb).1 b _ hlt).trans (hc j hj)⟩
end Go.Proofs.Ytoimmapdkapheaa
/- What the statements' pick answers. -/
namespace Go.Proofs.Ytoimmapdkapheaa
set_option maxRecDepth 4000
open Go.RowKit

def pickN (c : Int) (n : Nat) : Nat := ((if c < 0 then -(c + 1) else c) % n).toNat
theorem pickN_lt (c : Int) (n : Nat) (h : 0 < n) : pickN c n < n := by
  unfold pickN
  have h1 := Int.emod_nonneg (if c < 0 then -(c + 1) else c) (show (n : Int) ≠ 0 by omega)
  have h2 := Int.emod_lt_of_pos (if c < 0 then -(c + 1) else c) (show (0 : Int) < n by omega)
  omega
theorem pickN_eq (c : Int) (n : Nat) (h : 0 < n) : ((pickN c n : Nat) : Int) = (if c < 0 then -(c + 1) else c) % n := by
  unfold pickN
  have h1 := Int.emod_nonneg (if c < 0 then -(c + 1) else c) (show (n : Int) ≠ 0 by omega)
  omega
set_option maxHeartbeats 400000 in
theorem pick_any (c : Int) (n : Nat) (w : World) (h1 : -9223372036854775808 ≤ c) (h2 : c ≤ 9223372036854775807) (hn : 0 < n) (hn' : n ≤ 1000) :
    Calls Try.prog 9 #[.int .i64 c, .int .i64 n] w fun e w' => e = .returned (.int .i64 (pickN c n)) ∧ w' = w := by
  have he := pickN_eq c n hn
  have HE : Hid _ := he
  clear he
  by_cases h0 : c < 0
  · obtain ⟨q, hq⟩ : ∃ q, -(c + 1) = q := ⟨_, rfl⟩
    have hq0 : 0 ≤ q := by omega
    have hn0 : ¬ ((n : Int) = 0) := by omega
    go_enter Try.func9, Try.ntmps9
    go_wp2
    go_ret
    exact ⟨ret_int (by rw [HE.out, if_pos h0, hq]), rfl⟩
  · go_enter Try.func9, Try.ntmps9
    go_wp2
    go_ret
    exact ⟨ret_int (by rw [HE.out, if_neg (by omega)]), rfl⟩
end Go.Proofs.Ytoimmapdkapheaa
/- AAr: a struct api.Area as it lies in cells, and what a reading of it gives. -/
namespace Go.Proofs.Ytoimmapdkapheaa
set_option maxRecDepth 4000
open Go.ChangeShapes Go.WideShapes Go.ChangeAt Go.RowKit Go.Deep

structure AAr where
  a : Int
  b : Int
  w : Bool
  x : Bool
  h : Bool
def AAr.zero : AAr := ⟨0, 0, false, false, false⟩
def AAr.cells (d : AAr) : List Value := [.int .i64 d.a, .int .i64 d.b, .bool d.w, .bool d.x, .bool d.h]
def AAr.ok (d : AAr) : Prop := (-9223372036854775808 ≤ d.a ∧ d.a ≤ 9223372036854775807) ∧ (-9223372036854775808 ≤ d.b ∧ d.b ≤ 9223372036854775807)
theorem AAr.len (d : AAr) : d.cells.length = 5 := rfl
theorem cellsOf_AAr : Try.prog.cellsOf 55 = 5 := by kernel_rfl

section
variable {H : Type} {enc : TypeId × Value → H} {w : World} {base : Nat} {spare : Nat → Bool} {held : Bool}
theorem trod_AAr {fuel : Nat} {cs : List Value} {x : DataW H × List MemPlace} (hf : DataW.trod enc Try.prog w base spare held fuel 55 cs = some x) (hl : cs.length = 5) : ∃ d : AAr, cs = d.cells ∧ d.ok := by
  obtain ⟨xs, n, _, hx, _, hlen, h⟩ := DataW.trod_struct Try.underlying55 hf
  match cs, hl, xs, hlen with
  | [c0, c1, c2, c3, c4], _, [x0, x1, x2, x3], _ =>
    have z0 : Try.prog.cellsOf 31 = 2 := by kernel_rfl
    have z1 : Try.prog.cellsOf 4 = 1 := by kernel_rfl
    have z2 : Try.prog.cellsOf 3 = 1 := by kernel_rfl
    have h0 := h 0 _ rfl
    simp [z2] at h0
    obtain ⟨a0, e0, _, g0⟩ := DataW.trod_int Try.underlying3 h0
    simp only [List.cons.injEq, and_true] at e0
    subst e0
    have h1 := h 1 _ rfl
    simp [z2] at h1
    obtain ⟨a1, e1, _, g1⟩ := DataW.trod_int Try.underlying3 h1
    simp only [List.cons.injEq, and_true] at e1
    subst e1
    have h2 := h 2 _ rfl
    simp [z0] at h2
    obtain ⟨a2, e2, -⟩ := trod_ARt h2 rfl
    have h3 := h 3 _ rfl
    simp [z1] at h3
    obtain ⟨a3, e3, _⟩ := DataW.trod_bool Try.underlying4 h3
    simp only [List.cons.injEq, and_true] at e3
    subst e3
    simp only [ARt.cells, List.cons.injEq, and_true] at e2
    obtain ⟨rfl, rfl⟩ := e2
    exact ⟨⟨a0, a1, a2.w, a2.x, a3⟩, rfl, ⟨(bounds_i64 g0), (bounds_i64 g1)⟩⟩

theorem open_AAr {r : Reach} {b0 : Nat} {v : Value} {d : DataW H} {ps : List MemPlace} (hval : Value.okWide Try.prog w r b0 55 v) (hd : DataW.Trod enc Try.prog w base spare held 55 v d ps) :
    ∃ a : AAr, v = .agg a.cells.toArray ∧ a.ok := by
  obtain ⟨cs, rfl, hs⟩ := okWide_struct Try.underlying55 hval
  rw [cellsOf_AAr] at hs
  obtain ⟨l⟩ := cs
  obtain ⟨fuel, hf⟩ := hd
  obtain ⟨a, e, h⟩ := trod_AAr (cs := l) (by simpa [Value.cells] using hf) (by simpa using hs)
  exact ⟨a, by rw [e], h⟩
end

theorem AAr.cells_eq (d : AAr) : d.cells = [.int .i64 d.a, .int .i64 d.b, .bool d.w, .bool d.x, .bool d.h] := rfl
theorem AAr.one (d : AAr) : ∀ u ∈ d.cells, u.oneCell' = true := by
  intro u hu
  rw [AAr.cells_eq] at hu
  simp only [List.mem_cons, List.not_mem_nil, or_false] at hu
  rcases hu with rfl | rfl | rfl | rfl | rfl <;> rfl
def rAAr : Rec AAr := ⟨55, 5, 24, AAr.zero, AAr.cells, AAr.len, by decide, AAr.one⟩
theorem AAr.kin : Kin Try.prog rAAr 51 := Kin.of (z := .agg #[.int .i64 0, .int .i64 0, .bool false, .bool false, .bool false]) Try.underlying51 (by kernel_rfl) rfl
theorem AAr.at {w : World} {b o : Nat} {d : AAr} (h : At rAAr w b o d) : w.cell? ⟨b, o, none⟩ = some (.int .i64 d.a) ∧ w.cell? ⟨b, o + 1, none⟩ = some (.int .i64 d.b) ∧ w.cell? ⟨b, o + 2, none⟩ = some (.bool d.w) ∧ w.cell? ⟨b, o + 3, none⟩ = some (.bool d.x) ∧ w.cell? ⟨b, o + 4, none⟩ = some (.bool d.h) :=
  ⟨h 0 (by decide), h 1 (by decide), h 2 (by decide), h 3 (by decide), h 4 (by decide)⟩
def AAr.arr (d : AAr) : Array Value := #[.int .i64 d.a, .int .i64 d.b, .bool d.w, .bool d.x, .bool d.h]
theorem AAr.laid {w : World} {b : Nat} {d : AAr} (h : Laid w b 55 d.arr) : w.cell? ⟨b, 0, none⟩ = some (.int .i64 d.a) ∧ w.cell? ⟨b, 1, none⟩ = some (.int .i64 d.b) ∧ w.cell? ⟨b, 2, none⟩ = some (.bool d.w) ∧ w.cell? ⟨b, 3, none⟩ = some (.bool d.x) ∧ w.cell? ⟨b, 4, none⟩ = some (.bool d.h) :=
  ⟨h.cell 0, h.cell 1, h.cell 2, h.cell 3, h.cell 4⟩
theorem AAr.lst {w W : World} {ao : Option Addr} {len : Nat} {D : Nat → AAr} (h : Lst AAr.cells AAr.ok 5 w ao len D) (hb : Below w.heap.size w W) {i : Nat} (hi : i < len) : ∃ b off, ao = some ⟨b, off, none⟩ ∧ b < w.heap.size ∧ (D i).ok ∧ At rAAr W b (off + i * 5) (D i) := by
  obtain ⟨b, off, e, hlt, hall⟩ := h.at hi
  obtain ⟨hok, hc⟩ := hall i hi
  exact ⟨b, off, e, hlt, hok, fun j hj => ((bcell hb).1 b _ hlt).trans (hc j hj)⟩
end Go.Proofs.Ytoimmapdkapheaa
/- Lists of areas, and what pages have. No word of the program. -/
namespace Go.Proofs.Ytoimmapdkapheaa
set_option maxRecDepth 4000
open Go.RowKit

/-- What a page has: to be written, to be run, of blocks. -/
abbrev Pg := Bool × Bool × Bool
def AAr.pg (d : AAr) : Pg := (d.w, d.x, d.h)
def AAr.of (a b : Int) (t : Pg) : AAr := ⟨a, b, t.1, t.2.1, t.2.2⟩
theorem AAr.of_pg (d : AAr) : AAr.of d.a d.b d.pg = d := rfl
theorem pg_of (a b : Int) (t : Pg) : (AAr.of a b t).pg = t := rfl
theorem AAr.ext' {d e : AAr} (h1 : d.a = e.a) (h2 : d.b = e.b) (h3 : d.pg = e.pg) : d = e := by rw [← d.of_pg, ← e.of_pg, h1, h2, h3]

/-- Whether a page is in an area. -/
def inA (d : AAr) (p : Int) : Prop := d.a ≤ p ∧ p < d.b
/-- A page's ownA. -/
def ownA (L : List AAr) (p : Int) : Option Pg := match L with
  | [] => none
  | d :: L => if d.a ≤ p ∧ p < d.b then some d.pg else ownA L p
theorem own_nil (p : Int) : ownA [] p = none := rfl
theorem own_in {d : AAr} {L : List AAr} {p : Int} (h : inA d p) : ownA (d :: L) p = some d.pg := if_pos h
theorem own_out {d : AAr} {L : List AAr} {p : Int} (h : ¬ inA d p) : ownA (d :: L) p = ownA L p := if_neg h
theorem own_append : ∀ (L M : List AAr) (p : Int), ownA (L ++ M) p = (ownA L p).or (ownA M p)
  | [], M, p => by simp [ownA]
  | d :: L, M, p => by
    rw [List.cons_append]
    by_cases h : inA d p
    · rw [own_in h, own_in h]; rfl
    · rw [own_out h, own_out h, own_append L M p]
theorem own_none_iff : ∀ (L : List AAr) (p : Int), ownA L p = none ↔ ∀ d ∈ L, ¬ inA d p
  | [], p => by simp [ownA]
  | d :: L, p => by
    by_cases h : inA d p
    · rw [own_in h]
      exact ⟨(fun e => by cases e), fun e => absurd h (e d List.mem_cons_self)⟩
    · rw [own_out h, own_none_iff L p]
      exact ⟨fun e x hx => by
        rcases List.mem_cons.1 hx with rfl | hx
        · exact h
        · exact e x hx, fun e x hx => e x (List.mem_cons_of_mem _ hx)⟩
theorem own_some : ∀ (L : List AAr) (p : Int) (t : Pg), ownA L p = some t → ∃ d ∈ L, inA d p ∧ d.pg = t
  | [], p, t, h => by cases h
  | d :: L, p, t, h => by
    by_cases hd : inA d p
    · rw [own_in hd] at h
      exact ⟨d, List.mem_cons_self, hd, by simpa using h⟩
    · rw [own_out hd] at h
      obtain ⟨x, hx, h1, h2⟩ := own_some L p t h
      exact ⟨x, List.mem_cons_of_mem _ hx, h1, h2⟩

/-- A list that may be, but for its length, from lo on, where what is at lo's end is told. -/
def ChnA (lo : Int) (pr : Option Pg) (L : List AAr) : Prop := match L with
  | [] => True
  | d :: L => lo ≤ d.a ∧ d.a < d.b ∧ d.b ≤ 4096 ∧ (d.a = lo → pr ≠ some d.pg) ∧ ChnA d.b (some d.pg) L
def NrmA (L : List AAr) : Prop := ChnA 0 none L
/-- Where a list ends, and with what. -/
def finA (lo : Int) (pr : Option Pg) (L : List AAr) : Int × Option Pg := match L with
  | [] => (lo, pr)
  | d :: L => finA d.b (some d.pg) L
theorem chn_append : ∀ (L M : List AAr) (lo : Int) (pr : Option Pg), ChnA lo pr (L ++ M) ↔ ChnA lo pr L ∧ ChnA (finA lo pr L).1 (finA lo pr L).2 M
  | [], M, lo, pr => by simp [ChnA, finA]
  | d :: L, M, lo, pr => by
    rw [List.cons_append]
    show (_ ∧ _ ∧ _ ∧ _ ∧ ChnA d.b (some d.pg) (L ++ M)) ↔ (_ ∧ _ ∧ _ ∧ _ ∧ ChnA d.b (some d.pg) L) ∧ ChnA (finA d.b (some d.pg) L).1 (finA d.b (some d.pg) L).2 M
    rw [chn_append L M d.b (some d.pg)]
    constructor
    · rintro ⟨h1, h2, h3, h4, h5, h6⟩
      exact ⟨⟨h1, h2, h3, h4, h5⟩, h6⟩
    · rintro ⟨⟨h1, h2, h3, h4, h5⟩, h6⟩
      exact ⟨h1, h2, h3, h4, h5, h6⟩
theorem fin_append : ∀ (L M : List AAr) (lo : Int) (pr : Option Pg), finA lo pr (L ++ M) = finA (finA lo pr L).1 (finA lo pr L).2 M
  | [], _, _, _ => rfl
  | d :: L, M, lo, pr => by
    rw [List.cons_append]
    show finA d.b (some d.pg) (L ++ M) = _
    rw [fin_append L M]
    rfl
theorem chn_le : ∀ (L : List AAr) (lo : Int) (pr : Option Pg), ChnA lo pr L → lo ≤ (finA lo pr L).1 ∧ ∀ d ∈ L, lo ≤ d.a ∧ d.a < d.b ∧ d.b ≤ 4096 ∧ d.b ≤ (finA lo pr L).1
  | [], lo, pr, _ => ⟨Int.le_refl _, by simp⟩
  | d :: L, lo, pr, ⟨h1, h2, h3, _, h5⟩ => by
    obtain ⟨k1, k2⟩ := chn_le L d.b (some d.pg) h5
    refine ⟨by show lo ≤ (finA d.b (some d.pg) L).1; omega, fun x hx => ?_⟩
    rcases List.mem_cons.1 hx with rfl | hx
    · exact ⟨h1, h2, h3, k1⟩
    · obtain ⟨a1, a2, a3, a4⟩ := k2 x hx
      exact ⟨by omega, a2, a3, a4⟩
theorem own_below {L : List AAr} {lo : Int} {pr : Option Pg} (h : ChnA lo pr L) {p : Int} (hp : p < lo) : ownA L p = none := by
  rw [own_none_iff]
  intro d hd hin
  have := (chn_le L lo pr h).2 d hd
  have := hin.1
  omega
theorem own_behind {L : List AAr} {lo : Int} {pr : Option Pg} (h : ChnA lo pr L) {p : Int} (hp : (finA lo pr L).1 ≤ p) : ownA L p = none := by
  rw [own_none_iff]
  intro d hd hin
  have := (chn_le L lo pr h).2 d hd
  have := hin.2
  omega
theorem nrm_span {L : List AAr} (h : NrmA L) {d : AAr} (hd : d ∈ L) : 0 ≤ d.a ∧ d.a < d.b ∧ d.b ≤ 4096 := by
  have := (chn_le L _ _ h).2 d hd
  omega
/-- What is owned lies within the pages that there are. -/
theorem nrm_own {L : List AAr} (h : NrmA L) {p : Int} (hp : p < 0 ∨ 4096 ≤ p) : ownA L p = none := by
  rw [own_none_iff]
  intro d hd hin
  have := nrm_span h hd
  have := hin.1
  have := hin.2
  omega
/-- Its pages tell a list. -/
theorem chn_uniq : ∀ (L M : List AAr) (lo : Int) (pr : Option Pg), ChnA lo pr L → ChnA lo pr M → (∀ p, lo ≤ p → ownA L p = ownA M p) → L = M
  | [], [], _, _, _, _, _ => rfl
  | [], e :: M, lo, pr, _, h, hp => by
    have := hp e.a h.1
    rw [own_in ⟨Int.le_refl _, h.2.1⟩] at this
    cases this
  | d :: L, [], lo, pr, h, _, hp => by
    have := hp d.a h.1
    rw [own_in ⟨Int.le_refl _, h.2.1⟩] at this
    cases this
  | d :: L, e :: M, lo, pr, ⟨a1, a2, a3, a4, a5⟩, ⟨b1, b2, b3, b4, b5⟩, hp => by
    have ea : d.a = e.a := by
      rcases Int.lt_trichotomy d.a e.a with c | c | c
      · have h := hp d.a a1
        rw [own_in ⟨Int.le_refl _, a2⟩, own_out (fun k => by have := k.1; omega), own_below b5 (by omega)] at h
        cases h
      · exact c
      · have h := hp e.a b1
        rw [own_in (d := e) ⟨Int.le_refl _, b2⟩, own_out (fun k => by have := k.1; omega), own_below a5 (by omega)] at h
        cases h
    have ep : d.pg = e.pg := by
      have h := hp d.a a1
      rw [own_in ⟨Int.le_refl _, a2⟩, own_in ⟨by omega, by omega⟩] at h
      simpa using h
    have key : ∀ (X Y : List AAr) (x y : AAr), x.b < y.b → x.a = y.a → x.pg = y.pg → x.a < x.b → ChnA x.b (some x.pg) X → ownA (x :: X) x.b = ownA (y :: Y) x.b → False := fun X Y x y h1 h2 h3 h4 hX h => by
      rw [own_out (fun k => by have := k.2; omega), own_in (d := y) ⟨by omega, h1⟩] at h
      obtain ⟨z, hz, hin, hzp⟩ := own_some _ _ _ h
      cases X with
      | nil => cases hz
      | cons z' X =>
        obtain ⟨c1, c2, c3, c4, c5⟩ := hX
        rcases List.mem_cons.1 hz with rfl | hz
        · have := hin.1
          exact c4 (by omega) (by rw [h3, ← hzp])
        · have := ((chn_le X _ _ c5).2 z hz).1
          have := hin.1
          omega
    have eb : d.b = e.b := by
      rcases Int.lt_trichotomy d.b e.b with c | c | c
      · exact (key L M d e c ea ep a2 a5 (hp d.b (by omega))).elim
      · exact c
      · exact (key M L e d c ea.symm ep.symm b2 b5 (hp e.b (by omega)).symm).elim
    obtain rfl : d = e := AAr.ext' ea eb ep
    congr 1
    refine chn_uniq L M d.b (some d.pg) a5 b5 fun p hp' => ?_
    have h := hp p (by omega)
    rwa [own_out (fun k => by have := k.2; omega), own_out (fun k => by have := k.2; omega)] at h
/-- A list of the pages f. -/
def CanA (f : Int → Option Pg) (L : List AAr) : Prop := NrmA L ∧ ∀ p : Int, 0 ≤ p → p < 4096 → ownA L p = f p
theorem CanA.uniq {f : Int → Option Pg} {L M : List AAr} (h : CanA f L) (h' : CanA f M) : L = M := by
  refine chn_uniq L M 0 none h.1 h'.1 fun p hp => ?_
  by_cases hp' : p < 4096
  · rw [h.2 p hp hp', h'.2 p hp hp']
  · rw [nrm_own h.1 (by omega), nrm_own h'.1 (by omega)]
theorem CanA.congr {f g : Int → Option Pg} {L : List AAr} (h : CanA f L) (e : ∀ p : Int, 0 ≤ p → p < 4096 → f p = g p) : CanA g L := ⟨h.1, fun p h1 h2 => (h.2 p h1 h2).trans (e p h1 h2)⟩
theorem NrmA.can {L : List AAr} (h : NrmA L) : CanA (ownA L) L := ⟨h, fun _ _ _ => rfl⟩
theorem fin_snoc (lo : Int) (pr : Option Pg) (L : List AAr) (d : AAr) : finA lo pr (L ++ [d]) = (d.b, some d.pg) := by rw [fin_append]; rfl
theorem chn_one {lo : Int} {pr : Option Pg} {d : AAr} : ChnA lo pr [d] ↔ lo ≤ d.a ∧ d.a < d.b ∧ d.b ≤ 4096 ∧ (d.a = lo → pr ≠ some d.pg) := by
  unfold ChnA
  exact ⟨fun ⟨a, b, c, d, _⟩ => ⟨a, b, c, d⟩, fun ⟨a, b, c, d⟩ => ⟨a, b, c, d, trivial⟩⟩
/-- The pages below n, as areas. -/
def TilA (f : Int → Option Pg) (n : Int) (L : List AAr) : Prop := NrmA L ∧ (finA 0 none L).1 ≤ n ∧ ∀ p : Int, ownA L p = if 0 ≤ p ∧ p < n then f p else none
theorem TilA.nil (f : Int → Option Pg) : TilA f 0 [] := ⟨trivial, Int.le_refl _, fun p => by rw [if_neg (by omega)]; rfl⟩
/-- A run of pages that have nothing. -/
theorem TilA.skip {f : Int → Option Pg} {n m : Int} {L : List AAr} (h : TilA f n L) (hm : n ≤ m) (hf : ∀ p, n ≤ p → p < m → f p = none) : TilA f m L := by
  refine ⟨h.1, by have := h.2.1; omega, fun p => ?_⟩
  rw [h.2.2 p]
  by_cases c : 0 ≤ p ∧ p < n
  · rw [if_pos c, if_pos (by omega)]
  · rw [if_neg c]
    by_cases c2 : 0 ≤ p ∧ p < m
    · rw [if_pos c2, hf p (by omega) c2.2]
    · rw [if_neg c2]
/-- A run of pages that have the same, not what the page ahead has. -/
theorem TilA.run {f : Int → Option Pg} {n m : Int} {L : List AAr} {t : Pg} (h : TilA f n L) (h0 : 0 ≤ n) (hm : n < m) (hm2 : m ≤ 4096) (hf : ∀ p, n ≤ p → p < m → f p = some t) (ha : n = 0 ∨ f (n - 1) ≠ some t) : TilA f m (L ++ [AAr.of n m t]) := by
  refine ⟨?_, ?_, fun p => ?_⟩
  · refine (chn_append _ _ _ _).2 ⟨h.1, chn_one.2 ⟨h.2.1, hm, hm2, fun e k => ?_⟩⟩
    have e' : n = (finA 0 none L).1 := e
    have k' : (finA 0 none L).2 = some t := k
    rcases L.eq_nil_or_concat with rfl | ⟨L', d, rfl⟩
    · cases k'
    · rw [List.concat_eq_append, fin_snoc] at e' k'
      simp only [Option.some.injEq] at e' k'
      have hd := (chn_le _ _ _ h.1).2 d (by simp)
      have hp := h.2.2 (n - 1)
      rw [if_pos (by omega)] at hp
      have ho : ownA (L'.concat d) (n - 1) = some d.pg := by
        rw [List.concat_eq_append, own_append]
        have h1 := h.1
        rw [List.concat_eq_append] at h1
        have h2 := (chn_append _ _ _ _).1 h1
        rw [own_behind h2.1 (by have := (chn_one.1 h2.2).1; omega), own_in ⟨by omega, by omega⟩]
        rfl
      rw [ho, k'] at hp
      rcases ha with ha | ha
      · omega
      · exact ha hp.symm
  · rw [fin_snoc]
    exact Int.le_refl _
  · rw [own_append, h.2.2 p]
    by_cases c : 0 ≤ p ∧ p < n
    · rw [if_pos c, if_pos (by omega)]
      cases hfp : f p with
      | some x => rfl
      | none => rw [own_out (fun k => by have : n ≤ p := k.1; omega), own_nil]; rfl
    · rw [if_neg c]
      by_cases c2 : 0 ≤ p ∧ p < m
      · rw [if_pos c2, own_in ⟨by show n ≤ p; omega, c2.2⟩, hf p (by omega) c2.2]
        rfl
      · rw [if_neg c2, own_out (fun k => by have h1 : n ≤ p := k.1; have h2 : p < m := k.2; omega)]
        rfl
theorem TilA.can {f : Int → Option Pg} {L : List AAr} (h : TilA f 4096 L) : CanA f L := ⟨h.1, fun p h1 h2 => by rw [h.2.2 p, if_pos ⟨h1, h2⟩]⟩
theorem run_ex (f : Int → Option Pg) (t : Pg) : ∀ n : Nat, f n = some t → ∃ k : Nat, k ≤ n ∧ (∀ p : Int, (k : Int) ≤ p → p < (n : Int) + 1 → f p = some t) ∧ ((k : Int) = 0 ∨ f ((k : Int) - 1) ≠ some t)
  | 0, h => ⟨0, Nat.le_refl _, fun p h1 h2 => by rw [show p = ((0 : Nat) : Int) by omega]; exact h, Or.inl rfl⟩
  | n + 1, h => by
    by_cases hn : f n = some t
    · obtain ⟨k, h1, h2, h3⟩ := run_ex f t n hn
      refine ⟨k, by omega, fun p p1 p2 => ?_, h3⟩
      by_cases c : p < (n : Int) + 1
      · exact h2 p p1 c
      · rw [show p = ((n + 1 : Nat) : Int) by omega]
        exact h
    · refine ⟨n + 1, Nat.le_refl _, fun p p1 p2 => by rw [show p = ((n + 1 : Nat) : Int) by omega]; exact h, Or.inr ?_⟩
      rw [show ((n + 1 : Nat) : Int) - 1 = (n : Int) by omega]
      exact hn
/-- Of any pages there is a list. -/
theorem til_ex (f : Int → Option Pg) (n : Nat) : n ≤ 4096 → ∃ L, TilA f n L := by
  induction n using Nat.strongRecOn with
  | ind n ih =>
    intro hn
    cases n with
    | zero => exact ⟨[], TilA.nil f⟩
    | succ m =>
      cases hf : f m with
      | none =>
        obtain ⟨L, hL⟩ := ih m (by omega) (by omega)
        exact ⟨L, hL.skip (by omega) fun p h1 h2 => by rw [show p = (m : Int) by omega]; exact hf⟩
      | some t =>
        obtain ⟨k, h1, h2, h3⟩ := run_ex f t m hf
        obtain ⟨L, hL⟩ := ih k (by omega) (by omega)
        exact ⟨_, hL.run (m := ((m + 1 : Nat) : Int)) (by omega) (by omega) (by omega) (fun p p1 p2 => h2 p p1 (by omega)) h3⟩
theorem can_ex (f : Int → Option Pg) : ∃ L, CanA f L := by
  obtain ⟨L, h⟩ := til_ex f 4096 (Nat.le_refl _)
  exact ⟨L, TilA.can h⟩

/-- Whether the i-th may follow. -/
def goodA (L : List AAr) (i : Nat) : Prop := (0 ≤ (L.getD i AAr.zero).a ∧ (L.getD i AAr.zero).a < (L.getD i AAr.zero).b ∧ (L.getD i AAr.zero).b ≤ 4096) ∧ (0 < i → (L.getD (i - 1) AAr.zero).b ≤ (L.getD i AAr.zero).a ∧ ¬ ((L.getD (i - 1) AAr.zero).b = (L.getD i AAr.zero).a ∧ (L.getD (i - 1) AAr.zero).pg = (L.getD i AAr.zero).pg))
theorem take_one (L : List AAr) {i : Nat} (h : i < L.length) (z : AAr) : L.take (i + 1) = L.take i ++ [L.getD i z] := by
  rw [List.take_add_one, List.getD_eq_getElem?_getD, List.getElem?_eq_getElem h]
  rfl
theorem nrm_step {L : List AAr} {i : Nat} (hi : i < L.length) : NrmA (L.take (i + 1)) ↔ NrmA (L.take i) ∧ goodA L i := by
  rw [take_one L hi AAr.zero]
  unfold NrmA goodA
  rw [chn_append, chn_one]
  generalize hd : L.getD i AAr.zero = d
  cases i with
  | zero =>
    simp only [List.take_zero, finA]
    constructor
    · rintro ⟨h1, h2, h3, h4, _⟩
      exact ⟨trivial, ⟨h2, h3, h4⟩, fun h => absurd h (by omega)⟩
    · rintro ⟨_, ⟨h2, h3, h4⟩, _⟩
      exact ⟨trivial, h2, h3, h4, fun _ e => by cases e⟩
  | succ j =>
    rw [take_one L (show j < L.length by omega) AAr.zero, fin_snoc, show j + 1 - 1 = j by omega]
    generalize L.getD j AAr.zero = c
    constructor
    · rintro ⟨h1, h2, h3, h4, h5⟩
      have hc := (chn_le _ _ _ h1).2 c (by simp)
      exact ⟨h1, ⟨by have : c.b ≤ d.a := h2; omega, h3, h4⟩, fun _ => ⟨h2, fun ⟨e1, e2⟩ => h5 e1.symm (by rw [e2])⟩⟩
    · rintro ⟨h1, ⟨h2, h3, h4⟩, h5⟩
      obtain ⟨k1, k2⟩ := h5 (by omega)
      exact ⟨h1, k1, h3, h4, fun e k => k2 ⟨e.symm, by simpa using k⟩⟩
theorem nrm_take {L : List AAr} (h : NrmA L) (i : Nat) : NrmA (L.take i) := by
  have e := List.take_append_drop i L
  have h' : ChnA 0 none (L.take i ++ L.drop i) := by rw [e]; exact h
  exact ((chn_append _ _ _ _).1 h').1
/-- What the i-th has, beside those ahead of it. -/
theorem own_step {L : List AAr} {i : Nat} (hi : i < L.length) (h : NrmA L) (p : Int) : ownA (L.take (i + 1)) p = if (L.getD i AAr.zero).a ≤ p ∧ p < (L.getD i AAr.zero).b then some (L.getD i AAr.zero).pg else ownA (L.take i) p := by
  have h1 := nrm_take h (i + 1)
  rw [take_one L hi AAr.zero] at h1 ⊢
  have h2 := (chn_append _ _ _ _).1 h1
  rw [own_append]
  by_cases c : (L.getD i AAr.zero).a ≤ p ∧ p < (L.getD i AAr.zero).b
  · rw [if_pos c, own_behind h2.1 (by have := (chn_one.1 h2.2).1; omega), own_in c]
    rfl
  · rw [if_neg c, own_out c]
    cases ownA (List.take i L) p <;> rfl

theorem own_mem : ∀ (L : List AAr) (lo : Int) (pr : Option Pg), ChnA lo pr L → ∀ d ∈ L, ∀ p, inA d p → ownA L p = some d.pg
  | [], _, _, _, d, hd, _, _ => by cases hd
  | e :: L, lo, pr, ⟨h1, h2, h3, h4, h5⟩, d, hd, p, hp => by
    rcases List.mem_cons.1 hd with rfl | hd
    · exact own_in hp
    · have := ((chn_le L _ _ h5).2 d hd).1
      rw [own_out (fun k => by have := k.2; have := hp.1; omega)]
      exact own_mem L _ _ h5 d hd p hp
theorem NrmA.own {L : List AAr} (h : NrmA L) {d : AAr} (hd : d ∈ L) {p : Int} (hp : inA d p) : ownA L p = some d.pg := own_mem L _ _ h d hd p hp
theorem nrm_iff_all (L : List AAr) : NrmA L ↔ ∀ i, i < L.length → goodA L i := by
  constructor
  · intro h i hi
    exact ((nrm_step hi).1 (nrm_take h (i + 1))).2
  · intro h
    have key : ∀ i, i ≤ L.length → NrmA (L.take i) := by
      intro i
      induction i with
      | zero => intro _; exact trivial
      | succ i ih => intro hi; exact (nrm_step (by omega)).2 ⟨ih (by omega), h i (by omega)⟩
    have := key L.length (Nat.le_refl _)
    rwa [List.take_length] at this

/-- Laid over some pages (none: cut). -/
def layA (f : Int → Option Pg) (a b : Int) (t : Option Pg) (p : Int) : Option Pg := if a ≤ p ∧ p < b then t else f p
/-- Turned on some pages. -/
def mapA (f : Int → Option Pg) (a b : Int) (g : Pg → Pg) (p : Int) : Option Pg := if a ≤ p ∧ p < b then (f p).map g else f p
theorem layA_in {f : Int → Option Pg} {a b : Int} {t : Option Pg} {p : Int} (h : a ≤ p ∧ p < b) : layA f a b t p = t := if_pos h
theorem layA_out {f : Int → Option Pg} {a b : Int} {t : Option Pg} {p : Int} (h : ¬ (a ≤ p ∧ p < b)) : layA f a b t p = f p := if_neg h
theorem layA_comm (f : Int → Option Pg) {a b c d : Int} (t u : Option Pg) (h : ¬ (a < d ∧ c < b)) (p : Int) : layA (layA f a b t) c d u p = layA (layA f c d u) a b t p := by
  unfold layA
  by_cases h1 : a ≤ p ∧ p < b <;> by_cases h2 : c ≤ p ∧ p < d
  · exact absurd ⟨by omega, by omega⟩ h
  · rw [if_neg h2, if_pos h1, if_pos h1]
  · rw [if_pos h2, if_neg h1, if_pos h2]
  · rw [if_neg h2, if_neg h1, if_neg h1, if_neg h2]
theorem layA_twice (f : Int → Option Pg) (a b : Int) (t : Option Pg) (p : Int) : layA (layA f a b t) a b t p = layA f a b t p := by
  unfold layA
  by_cases h1 : a ≤ p ∧ p < b
  · rw [if_pos h1, if_pos h1]
  · rw [if_neg h1, if_neg h1]
theorem can_none {f : Int → Option Pg} {M : List AAr} (h : CanA f M) (hf : ∀ p : Int, 0 ≤ p → p < 4096 → f p = none) : M = [] :=
  CanA.uniq h ⟨trivial, fun p h1 h2 => (hf p h1 h2).symm⟩
theorem CanA.lay {f g : Int → Option Pg} {L M : List AAr} {a b : Int} {t : Option Pg} (h : CanA (layA f a b t) M) (hL : CanA g L) (hf : ∀ p : Int, 0 ≤ p → p < 4096 → f p = g p) : CanA (layA (ownA L) a b t) M :=
  h.congr fun p h1 h2 => by
    unfold layA
    rw [hf p h1 h2, hL.2 p h1 h2]

/-- Room for n pages from z on. -/
def roomA (f : Int → Option Pg) (n z : Int) : Prop := 0 ≤ z ∧ z + n ≤ 4096 ∧ ∀ p, z ≤ p → p < z + n → f p = none
/-- The lowest room; below 0: there is none. -/
def RoomP (f : Int → Option Pg) (n z : Int) : Prop := (roomA f n z ∧ ∀ y, roomA f n y → z ≤ y) ∨ (z = -1 ∧ ∀ y, ¬ roomA f n y)
theorem RoomP.uniq {f : Int → Option Pg} {n z y : Int} (h : RoomP f n z) (h' : RoomP f n y) : z = y := by
  rcases h with ⟨h1, h2⟩ | ⟨h1, h2⟩ <;> rcases h' with ⟨k1, k2⟩ | ⟨k1, k2⟩
  · have := h2 y k1
    have := k2 z h1
    omega
  · exact absurd h1 (k2 z)
  · exact absurd k1 (h2 y)
  · omega
theorem roomA.congr {f g : Int → Option Pg} {n z : Int} (h : roomA f n z) (e : ∀ p : Int, 0 ≤ p → p < 4096 → f p = g p) : roomA g n z :=
  ⟨h.1, h.2.1, fun p h1 h2 => by rw [← e p (by have := h.1; omega) (by have := h.2.1; omega)]; exact h.2.2 p h1 h2⟩
theorem RoomP.congr {f g : Int → Option Pg} {n z : Int} (h : RoomP f n z) (e : ∀ p : Int, 0 ≤ p → p < 4096 → f p = g p) : RoomP g n z := by
  rcases h with ⟨h1, h2⟩ | ⟨h1, h2⟩
  · exact Or.inl ⟨h1.congr e, fun y hy => h2 y (hy.congr fun p a b => (e p a b).symm)⟩
  · exact Or.inr ⟨h1, fun y hy => h2 y (hy.congr fun p a b => (e p a b).symm)⟩
/-- How many pages ahead of i have nothing, side by side. -/
def RunA (f : Int → Option Pg) (i n : Int) : Prop := 0 ≤ n ∧ n ≤ i ∧ (∀ p, i - n ≤ p → p < i → f p = none) ∧ (n = i ∨ f (i - n - 1) ≠ none)
/-- No room ends at i or ahead of it. -/
def NoRoom (f : Int → Option Pg) (n i : Int) : Prop := ∀ y, roomA f n y → i < y + n
theorem RunA.zero (f : Int → Option Pg) : RunA f 0 0 := ⟨Int.le_refl _, Int.le_refl _, fun p h1 h2 => by omega, Or.inl rfl⟩
theorem NoRoom.zero (f : Int → Option Pg) {n : Int} (h : 1 ≤ n) : NoRoom f n 0 := fun y hy => by have := hy.1; omega
theorem RunA.free {f : Int → Option Pg} {i n : Int} (h : RunA f i n) (hf : f i = none) : RunA f (i + 1) (n + 1) := by
  obtain ⟨h1, h2, h3, h4⟩ := h
  refine ⟨by omega, by omega, fun p a b => ?_, ?_⟩
  · by_cases c : p < i
    · exact h3 p (by omega) c
    · rw [show p = i by omega]
      exact hf
  · rcases h4 with h4 | h4
    · exact Or.inl (by omega)
    · refine Or.inr ?_
      rwa [show i + 1 - (n + 1) - 1 = i - n - 1 by omega]
theorem RunA.taken {f : Int → Option Pg} {i n : Int} (h : RunA f i n) (hf : f i ≠ none) : RunA f (i + 1) 0 :=
  ⟨Int.le_refl _, by have := h.1; have := h.2.1; omega, fun p a b => by omega, Or.inr (by rwa [show i + 1 - 0 - 1 = i by omega])⟩
theorem RunA.found {f : Int → Option Pg} {i n : Int} (h : RunA f (i + 1) n) (hn : NoRoom f n i) (hi : i < 4096) : RoomP f n (i + 1 - n) := by
  obtain ⟨h1, h2, h3, h4⟩ := h
  exact Or.inl ⟨⟨by omega, by omega, fun p a b => h3 p a (by omega)⟩, fun y hy => by have := hn y hy; omega⟩
theorem RunA.less {f : Int → Option Pg} {i m n : Int} (h : RunA f (i + 1) m) (hn : NoRoom f n i) (hm : m < n) : NoRoom f n (i + 1) := fun y hy => by
  have h0 := hn y hy
  obtain ⟨h1, h2, h3, h4⟩ := h
  by_cases c : y + n = i + 1
  · have hy0 := hy.1
    rcases h4 with h4 | h4
    · omega
    · exact absurd (hy.2.2 (i + 1 - m - 1) (by omega) (by omega)) h4
  · omega
theorem NoRoom.done {f : Int → Option Pg} {n : Int} (h : NoRoom f n 4096) : RoomP f n (-1) := Or.inr ⟨rfl, fun y hy => by have := h y hy; have := hy.2.1; omega⟩
/-- By a list's gaps: what lies between two of its areas. -/
theorem gap_free {L : List AAr} {i : Nat} (hi : i < L.length) (h : NrmA L) {p : Int} (h1 : (finA 0 none (L.take i)).1 ≤ p) (h2 : p < (L.getD i AAr.zero).a) : ownA L p = none := by
  have e := List.take_append_drop i L
  have h' : ChnA 0 none (L.take i ++ L.drop i) := by rw [e]; exact h
  have k := (chn_append _ _ _ _).1 h'
  have ed : L.drop i = L.getD i AAr.zero :: L.drop (i + 1) := by
    rw [List.getD_eq_getElem?_getD, List.getElem?_eq_getElem hi, Option.getD_some, List.drop_eq_getElem_cons hi]
  have k2 := k.2
  rw [ed] at k2
  rw [← e, own_append, own_behind k.1 h1, ed, own_out (fun x => by have := x.1; omega), own_below k2.2.2.2.2 (by have := k2.2.1; omega)]
  rfl
end Go.Proofs.Ytoimmapdkapheaa
