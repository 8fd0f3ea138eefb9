/- Arguments that are structs of plain cells, or lists of such: what a reading of them gives. -/
import Derived.Test.YtoimmapdkapheaaZ
import Derived.ProofKit
import Derived.OpenShut
import Derived.Deep.Slices
namespace Go.Proofs.Ytoimmapdkapheaa
set_option maxRecDepth 4000
open Go.ChangeShapes Go.WideShapes Go.ChangeAt Go.RowKit Go.Deep

/-- The cells of a list of len things of k cells each, as they lie at ao. -/
def Lst {α : Type} (cells : α → List Value) (ok : α → Prop) (k : Nat) (W : World) (ao : Option Addr) (len : Nat) (D : Nat → α) : Prop :=
  len = 0 ∨ ∃ b off, ao = some ⟨b, off, none⟩ ∧ b < W.heap.size ∧ ∀ i, i < len → ok (D i) ∧ ∀ j, j < k → W.cell? ⟨b, off + i * k + j, none⟩ = (cells (D i))[j]?

theorem Lst.below {α : Type} {cells : α → List Value} {ok : α → Prop} {k : Nat} {W w' : World} {ao : Option Addr} {len : Nat} {D : Nat → α} (h : Lst cells ok k W ao len D) (hb : Below W.heap.size W w') : Lst cells ok k w' ao len D := by
  rcases h with h | ⟨b, off, e, hlt, h⟩
  · exact Or.inl h
  · refine Or.inr ⟨b, off, e, Nat.lt_of_lt_of_le hlt hb.size, fun i hi => ⟨(h i hi).1, fun j hj => ?_⟩⟩
    rw [hb.cell (p := ⟨b, off + i * k + j, none⟩) hlt]
    exact (h i hi).2 j hj

theorem Lst.at {α : Type} {cells : α → List Value} {ok : α → Prop} {k : Nat} {W : World} {ao : Option Addr} {len : Nat} {D : Nat → α} (h : Lst cells ok k W ao len D) {i : Nat} (hi : i < len) :
    ∃ b off, ao = some ⟨b, off, none⟩ ∧ b < W.heap.size ∧ ∀ i, i < len → ok (D i) ∧ ∀ j, j < k → W.cell? ⟨b, off + i * k + j, none⟩ = (cells (D i))[j]? := by
  rcases h with h | h
  · omega
  · exact h

section
variable {H : Type} {enc : TypeId × Value → H} {P : Program} {w : World}

theorem open_list {α : Type} (dflt : α) (cells : α → List Value) (ok : α → Prop) (k : Nat) {t e : TypeId} (ht : P.underlying t = some (.slice e)) (ce : P.cellsOf e = k) (hk : 0 < k) (hlen : ∀ d, (cells d).length = k)
    (hopen : ∀ {fuel : Nat} {cs : List Value} {x : DataW H × List MemPlace}, DataW.trod enc P w 0 (fun _ => true) true fuel e cs = some x → cs.length = k → ∃ d, cs = cells d ∧ ok d)
    {r : Reach} {b0 : Nat} {v : Value} {d : DataW H} {ps : List MemPlace} (hval : Value.okWide P w r b0 t v) (hd : DataW.Trod enc P w 0 (fun _ => true) true t v d ps) :
    ∃ ao len cap D, v = .slice ao len cap ∧ len ≤ maxLen ∧ Lst cells ok k w ao len D := by
  obtain ⟨a0, len0, cap0, rfl⟩ := okWide_slice ht hval
  obtain ⟨fuel, hf⟩ := hd
  rcases open_slice ht hf with ⟨h0, _⟩ | ⟨a, len, cap, m, n, D, Pl, h0, hb, hl, hm, hmm, hx, hall⟩
  · simp [Value.cells] at h0
    obtain ⟨rfl, rfl, rfl⟩ := h0
    exact ⟨none, 0, 0, fun _ => dflt, rfl, Nat.zero_le _, Or.inl rfl⟩
  · simp [Value.cells] at h0
    obtain ⟨rfl, rfl, rfl⟩ := h0
    simp only [if_true] at hmm
    subst hmm
    by_cases hz : len0 = 0
    · exact ⟨some a, len0, m, fun _ => dflt, rfl, Nat.le_trans hl hm, Or.inl hz⟩
    have each : ∀ i, i < m → ∃ x : α, ok x ∧ ∀ j, j < k → w.cell? (a.add (i * k + j)) = (cells x)[j]? := by
      intro i hi
      obtain ⟨cs', h1, h2⟩ := hall i hi
      rw [ce] at h1
      obtain ⟨_, hlen', hcell⟩ := World.cells?_some h1
      obtain ⟨x, rfl, hok⟩ := hopen h2 hlen'
      exact ⟨x, hok, fun j hj => by rw [← add_add]; exact hcell j hj⟩
    obtain ⟨E, hE⟩ := @choose_lt α ⟨dflt⟩ m _ each
    have h00 := (hE 0 (by omega)).2 0 hk
    simp only [Nat.zero_mul, Nat.add_zero] at h00
    have ha : a.spot = none := by
      have hn : (cells (E 0))[0]? ≠ none := by
        intro q
        rw [List.getElem?_eq_none_iff, hlen] at q
        omega
      cases hs : a.spot with
      | none => rfl
      | some s =>
        exfalso
        apply hn
        rw [← h00]
        show World.cell? w (a.add 0) = none
        simp only [Addr.add, if_true, World.cell?]
        split
        · simp [hs]
        · rfl
    obtain ⟨b, off, sp⟩ := a
    simp only at ha
    subst ha
    have hadd : ∀ j, (⟨b, off, none⟩ : Addr).add j = ⟨b, off + j, none⟩ := fun j => Addr.add_lit _ _ _
    refine ⟨some ⟨b, off, none⟩, len0, m, E, rfl, Nat.le_trans hl hm, Or.inr ⟨b, off, rfl, ?_, fun i hi => ⟨(hE i (by omega)).1, fun j hj => ?_⟩⟩⟩
    · obtain ⟨u, hu⟩ : ∃ u, (cells (E 0))[0]? = some u := ⟨_, List.getElem?_eq_getElem (by rw [hlen]; exact hk)⟩
      rw [hu] at h00
      exact block_lt_of_cell h00
    · rw [Nat.add_assoc, ← hadd]
      exact (hE i (by omega)).2 j hj
end
end Go.Proofs.Ytoimmapdkapheaa
