/- Own texts, joined: UClones, ZArgs, UDeed, UTakes, YDeed. -/
import Derived.Test.YtmmbfgkfidconaaDoorJE
import Derived.Test.YtmmbfgkfidconaaDoorJA
import Derived.ProofKit
import Derived.OpenShut
import Derived.Deep.Slices
import Derived.Test.YtmmbfgkfidconaaDoorJC
/- BuddyClones, walked. -/
namespace Go.Proofs.YtmmbfgkfidconaaDoor
open Go.RowKit

theorem size_all {n : Nat} {L : List Bk} (ho : Okl n L) (h : ∀ x, cov L x ↔ x < n) : size L = n := by
  rw [size_cnt L n ho.good.sorted ho.top]
  exact cnt_all _ n fun x hx => (covB_iff _ _).2 ((h x).2 hx)
theorem size_same {n : Nat} {L M : List Bk} (h1 : Okl n L) (h2 : Okl n M) (h : ∀ x, cov L x ↔ cov M x) : L = M := h1.good.unique h2.good h
/-- A block of cells that may be written. -/
def Wr (w : World) (g m : Nat) : Prop := ∃ cur, w.heap[g]? = some (.cells cur 56 (0, 0)) ∧ cur.size = m
theorem Wr.rules {w : World} {g m : Nat} (h : Wr w g m) (j : Nat) (hj : j < m) : (∃ u, w.cell? ⟨g, j, none⟩ = some u) ∧ w.frozen? ⟨g, j, none⟩ = false := by
  obtain ⟨cur, h1, h2⟩ := h
  refine ⟨?_, frozen_of_row w g _ cur _ h1⟩
  rw [cell_of_row w g _ cur _ _ h1]
  exact ⟨_, Array.getElem?_eq_getElem (by omega)⟩
theorem Wr.lt {w : World} {g m : Nat} (h : Wr w g m) : g < w.heap.size := by
  obtain ⟨cur, h1, h2⟩ := h
  exact (Array.getElem?_eq_some_iff.1 h1).1
theorem Wr.set {w : World} {g m : Nat} (h : Wr w g m) (j : Nat) (u : Value) : Wr (w.setCell ⟨g, j, none⟩ u) g m := by
  obtain ⟨cur, h1, h2⟩ := h
  exact ⟨_, heap_setCell_same w g j cur _ u h1, by simpa using h2⟩

end Go.Proofs.YtmmbfgkfidconaaDoor
/- Arguments that are structs of plain cells, or lists of such: what a reading of them gives. -/
namespace Go.Proofs.YtmmbfgkfidconaaDoor
open Go.ChangeShapes Go.WideShapes Go.ChangeAt Go.RowKit Go.Deep

/-- The cells of a list of len things of k cells each, as they lie at ao. -/
def Lst {α : Type} (cells : α → List Value) (ok : α → Prop) (k : Nat) (W : World) (ao : Option Addr) (len : Nat) (D : Nat → α) : Prop :=
  len = 0 ∨ ∃ b off, ao = some ⟨b, off, none⟩ ∧ b < W.heap.size ∧ ∀ i, i < len → ok (D i) ∧ ∀ j, j < k → W.cell? ⟨b, off + i * k + j, none⟩ = (cells (D i))[j]?

theorem Lst.below {α : Type} {cells : α → List Value} {ok : α → Prop} {k : Nat} {W w' : World} {ao : Option Addr} {len : Nat} {D : Nat → α} (h : Lst cells ok k W ao len D) (hb : Below W.heap.size W w') : Lst cells ok k w' ao len D := by
  rcases h with h | ⟨b, off, e, hlt, h⟩
  · exact Or.inl h
  · refine Or.inr ⟨b, off, e, Nat.lt_of_lt_of_le hlt hb.size, fun i hi => ⟨(h i hi).1, fun j hj => ?_⟩⟩
    rw [hb.cell (p := ⟨b, off + i * k + j, none⟩) hlt]
    exact (h i hi).2 j hj

theorem Lst.at {α : Type} {cells : α → List Value} {ok : α → Prop} {k : Nat} {W : World} {ao : Option Addr} {len : Nat} {D : Nat → α} (h : Lst cells ok k W ao len D) {i : Nat} (hi : i < len) :
    ∃ b off, ao = some ⟨b, off, none⟩ ∧ b < W.heap.size ∧ ∀ i, i < len → ok (D i) ∧ ∀ j, j < k → W.cell? ⟨b, off + i * k + j, none⟩ = (cells (D i))[j]? := by
  rcases h with h | h
  · omega
  · exact h

section
variable {H : Type} {enc : TypeId × Value → H} {P : Program} {w : World}

theorem open_list {α : Type} (dflt : α) (cells : α → List Value) (ok : α → Prop) (k : Nat) {t e : TypeId} (ht : P.underlying t = some (.slice e)) (ce : P.cellsOf e = k) (hk : 0 < k) (hlen : ∀ d, (cells d).length = k)
    (hopen : ∀ {fuel : Nat} {cs : List Value} {x : DataW H × List MemPlace}, DataW.trod enc P w 0 (fun _ => true) true fuel e cs = some x → cs.length = k → ∃ d, cs = cells d ∧ ok d)
    {r : Reach} {b0 : Nat} {v : Value} {d : DataW H} {ps : List MemPlace} (hval : Value.okWide P w r b0 t v) (hd : DataW.Trod enc P w 0 (fun _ => true) true t v d ps) :
    ∃ ao len cap D, v = .slice ao len cap ∧ len ≤ maxLen ∧ Lst cells ok k w ao len D := by
  obtain ⟨a0, len0, cap0, rfl⟩ := okWide_slice ht hval
  obtain ⟨fuel, hf⟩ := hd
  rcases open_slice ht hf with ⟨h0, _⟩ | ⟨a, len, cap, m, n, D, Pl, h0, hb, hl, hm, hmm, hx, hall⟩
  · simp [Value.cells] at h0
    obtain ⟨rfl, rfl, rfl⟩ := h0
    exact ⟨none, 0, 0, fun _ => dflt, rfl, Nat.zero_le _, Or.inl rfl⟩
  · simp [Value.cells] at h0
    obtain ⟨rfl, rfl, rfl⟩ := h0
    simp only [if_true] at hmm
    subst hmm
    by_cases hz : len0 = 0
    · exact ⟨some a, len0, m, fun _ => dflt, rfl, Nat.le_trans hl hm, Or.inl hz⟩
    have each : ∀ i, i < m → ∃ x : α, ok x ∧ ∀ j, j < k → w.cell? (a.add (i * k + j)) = (cells x)[j]? := by
      intro i hi
      obtain ⟨cs', h1, h2⟩ := hall i hi
      rw [ce] at h1
      obtain ⟨_, hlen', hcell⟩ := World.cells?_some h1
      obtain ⟨x, rfl, hok⟩ := hopen h2 hlen'
      exact ⟨x, hok, fun j hj => by rw [← add_add]; exact hcell j hj⟩
    obtain ⟨E, hE⟩ := @choose_lt α ⟨dflt⟩ m _ each
    have h00 := (hE 0 (by omega)).2 0 hk
    simp only [Nat.zero_mul, Nat.add_zero] at h00
    have ha : a.spot = none := by
      have hn : (cells (E 0))[0]? ≠ none := by
        intro q
        rw [List.getElem?_eq_none_iff, hlen] at q
        omega
      cases hs : a.spot with
      | none => rfl
      | some s =>
        exfalso
        apply hn
        rw [← h00]
        show World.cell? w (a.add 0) = none
        simp only [Addr.add, if_true, World.cell?]
        split
        · simp [hs]
        · rfl
    obtain ⟨b, off, sp⟩ := a
    simp only at ha
    subst ha
    have hadd : ∀ j, (⟨b, off, none⟩ : Addr).add j = ⟨b, off + j, none⟩ := fun j => Addr.add_lit _ _ _
    refine ⟨some ⟨b, off, none⟩, len0, m, E, rfl, Nat.le_trans hl hm, Or.inr ⟨b, off, rfl, ?_, fun i hi => ⟨(hE i (by omega)).1, fun j hj => ?_⟩⟩⟩
    · obtain ⟨u, hu⟩ : ∃ u, (cells (E 0))[0]? = some u := ⟨_, List.getElem?_eq_getElem (by rw [hlen]; exact hk)⟩
      rw [hu] at h00
      exact block_lt_of_cell h00
    · rw [Nat.add_assoc, ← hadd]
      exact (hE i (by omega)).2 j hj
end
end Go.Proofs.YtmmbfgkfidconaaDoor
/- UDd: a struct paviorlaw07.Deed as it lies in cells, and what a reading of it gives. -/
namespace Go.Proofs.YtmmbfgkfidconaaDoor
open Go.ChangeShapes Go.WideShapes Go.ChangeAt Go.RowKit Go.Deep

structure UDd where
  what : Int
  frame : Int
  order : Int
def UDd.zero : UDd := ⟨0, 0, 0⟩
def UDd.cells (d : UDd) : List Value := [.int .i64 d.what, .int .i64 d.frame, .int .i64 d.order]
def UDd.ok (d : UDd) : Prop := (-9223372036854775808 ≤ d.what ∧ d.what ≤ 9223372036854775807) ∧ (-9223372036854775808 ≤ d.frame ∧ d.frame ≤ 9223372036854775807) ∧ (-9223372036854775808 ≤ d.order ∧ d.order ≤ 9223372036854775807)
theorem UDd.len (d : UDd) : d.cells.length = 3 := rfl
section
variable {H : Type} {enc : TypeId × Value → H} {w : World} {base : Nat} {spare : Nat → Bool} {held : Bool}
end
end Go.Proofs.YtmmbfgkfidconaaDoor
/- BuddyTakes, walked. -/
namespace Go.Proofs.YtmmbfgkfidconaaDoor
open Go.RowKit

theorem lst_in {o : Nat} {n : Nat} {L : List Bk} (ho : Okl n L) {m : Nat} (h : lst o L L.length = some m) : alB ((L.getD m (0, 0)).1, o) ∨ 5 < o := by
  have hs := lst_spec o L L.length
  rw [h] at hs
  obtain ⟨h1, h2, _⟩ := hs
  have hal := ho.good.al _ (ho.get h1)
  rcases Nat.lt_or_ge 5 o with h5 | h5
  · exact Or.inr h5
  · exact Or.inl ⟨h5, Nat.dvd_trans (Nat.pow_dvd_pow 2 h2) hal.2⟩
theorem lst_bend {o : Nat} {n : Nat} {L : List Bk} (ho : Okl n L) {m : Nat} (h : lst o L L.length = some m) : bend ((L.getD m (0, 0)).1, o) ≤ n ∧ ∀ x, inB ((L.getD m (0, 0)).1, o) x → cov L x := by
  have hs := lst_spec o L L.length
  rw [h] at hs
  obtain ⟨h1, h2, _⟩ := hs
  have hp := Nat.pow_le_pow_right (show 0 < 2 by decide) h2
  have ht := ho.top _ (ho.get h1)
  have e1 : bend ((L.getD m (0, 0)).1, o) = (L.getD m (0, 0)).1 + 2 ^ o := rfl
  have e2 : bend (L.getD m (0, 0)) = (L.getD m (0, 0)).1 + 2 ^ (L.getD m (0, 0)).2 := rfl
  refine ⟨by omega, fun x hx => ⟨_, ho.get h1, hx.1, ?_⟩⟩
  have := hx.2
  omega
theorem cov_back {L L1 L2 : List Bk} {b : Bk} (h1 : ∀ x, cov L1 x ↔ cov L x ∧ ¬ inB b x) (h2 : ∀ x, cov L2 x ↔ cov L1 x ∨ inB b x) (h : ∀ x, inB b x → cov L x) (x : Nat) : cov L2 x ↔ cov L x := by
  rw [h2, h1]
  constructor
  · rintro (h' | h')
    · exact h'.1
    · exact h x h'
  · intro hc
    by_cases hb : inB b x
    · exact Or.inr hb
    · exact Or.inl ⟨hc, hb⟩
theorem allB_gone {L L1 : List Bk} {b : Bk} (h1 : ∀ x, cov L1 x ↔ cov L x ∧ ¬ inB b x) : allB L1 b false := fun x hx => (covB_false _ _).2 fun hc => ((h1 x).1 hc).2 hx

end Go.Proofs.YtmmbfgkfidconaaDoor
/- YDd: a struct paviorlaw08.Deed as it lies in cells, and what a reading of it gives. -/
namespace Go.Proofs.YtmmbfgkfidconaaDoor
open Go.ChangeShapes Go.WideShapes Go.ChangeAt Go.RowKit Go.Deep

structure YDd where
  what : Int
  sort : Int
  order : Int
  pos : Int
def YDd.zero : YDd := ⟨0, 0, 0, 0⟩
def YDd.cells (d : YDd) : List Value := [.int .i64 d.what, .int .i64 d.sort, .int .i64 d.order, .int .i64 d.pos]
def YDd.ok (d : YDd) : Prop := (-9223372036854775808 ≤ d.what ∧ d.what ≤ 9223372036854775807) ∧ (-9223372036854775808 ≤ d.sort ∧ d.sort ≤ 9223372036854775807) ∧ (-9223372036854775808 ≤ d.order ∧ d.order ≤ 9223372036854775807) ∧ (-9223372036854775808 ≤ d.pos ∧ d.pos ≤ 9223372036854775807)
theorem YDd.len (d : YDd) : d.cells.length = 4 := rfl
theorem cellsOf_YDd : Tryd.prog.cellsOf 36 = 4 := by kernel_rfl

section
variable {H : Type} {enc : TypeId × Value → H} {w : World} {base : Nat} {spare : Nat → Bool} {held : Bool}
set_option maxRecDepth 20000 in
theorem trod_YDd {fuel : Nat} {cs : List Value} {x : DataW H × List MemPlace} (hf : DataW.trod enc Tryd.prog w base spare held fuel 36 cs = some x) (hl : cs.length = 4) : ∃ d : YDd, cs = d.cells ∧ d.ok := by
  obtain ⟨xs, n, _, hx, _, hlen, h⟩ := DataW.trod_struct Tryd.underlying36 hf
  match cs, hl, xs, hlen with
  | [c0, c1, c2, c3], _, [x0, x1, x2, x3], _ =>
    have z0 : Tryd.prog.cellsOf 3 = 1 := by kernel_rfl
    have h0 := h 0 _ rfl
    simp [z0] at h0
    obtain ⟨a0, e0, _, g0⟩ := DataW.trod_int Tryd.underlying3 h0
    simp only [List.cons.injEq, and_true] at e0
    subst e0
    have h1 := h 1 _ rfl
    simp [z0] at h1
    obtain ⟨a1, e1, _, g1⟩ := DataW.trod_int Tryd.underlying3 h1
    simp only [List.cons.injEq, and_true] at e1
    subst e1
    have h2 := h 2 _ rfl
    simp [z0] at h2
    obtain ⟨a2, e2, _, g2⟩ := DataW.trod_int Tryd.underlying3 h2
    simp only [List.cons.injEq, and_true] at e2
    subst e2
    have h3 := h 3 _ rfl
    simp [z0] at h3
    obtain ⟨a3, e3, _, g3⟩ := DataW.trod_int Tryd.underlying3 h3
    simp only [List.cons.injEq, and_true] at e3
    subst e3
    exact ⟨⟨a0, a1, a2, a3⟩, rfl, ⟨(bounds_i64 g0), (bounds_i64 g1), (bounds_i64 g2), (bounds_i64 g3)⟩⟩

theorem open_YDd {r : Reach} {b0 : Nat} {v : Value} {d : DataW H} {ps : List MemPlace} (hval : Value.okWide Tryd.prog w r b0 36 v) (hd : DataW.Trod enc Tryd.prog w base spare held 36 v d ps) :
    ∃ a : YDd, v = .agg a.cells.toArray ∧ a.ok := by
  obtain ⟨cs, rfl, hs⟩ := okWide_struct Tryd.underlying36 hval
  rw [cellsOf_YDd] at hs
  obtain ⟨l⟩ := cs
  obtain ⟨fuel, hf⟩ := hd
  obtain ⟨a, e, h⟩ := trod_YDd (cs := l) (by simpa [Value.cells] using hf) (by simpa using hs)
  exact ⟨a, by rw [e], h⟩
end
end Go.Proofs.YtmmbfgkfidconaaDoor
