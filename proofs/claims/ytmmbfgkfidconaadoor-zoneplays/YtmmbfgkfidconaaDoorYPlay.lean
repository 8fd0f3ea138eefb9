/- ZonePlays: a zone beside the document's. -/
import Derived.Test.YtmmbfgkfidconaaDoorJN
import Derived.Test.YtmmbfgkfidconaaDoorYBack
import Derived.Test.YtmmbfgkfidconaaDoorUCov
namespace Go.Proofs.YtmmbfgkfidconaaDoor
open Go.RowKit

/-- A zone, the document's, and the deed at hand. -/
structure ZD (w W : World) (z n hi m s t k cs ct ck : Nat) (L : List Bk) (gs : List Gp) (M : List Bool) (gm : List Gp) (db : Nat) (dc : Array Value) (G : Nat → Prop) : Prop where
  zn : Zn w W z n L gs G
  mb : MB hi W m s t k cs ct ck M gm
  inG : ∀ b, mf m s t k b → G b
  len : M.length = n
  hi : w.heap.size ≤ hi
  deed : Laid W db 36 dc
  dG : G db
  dn : ¬ mf m s t k db
section
variable {w W W' : World} {z n hi m s t k cs ct ck : Nat} {L L' : List Bk} {gs gs' : List Gp} {M M' : List Bool} {gm gm' : List Gp} {db : Nat} {dc : Array Value} {G : Nat → Prop}
theorem ZD.below (h : ZD w W z n hi m s t k cs ct ck L gs M gm db dc G) (hb : Below W.heap.size W W') : ZD w W' z n hi m s t k cs ct ck L gs M gm db dc G :=
  ⟨h.zn.below hb, h.mb.below hb, h.inG, h.len, h.hi, h.deed.below hb, h.dG, h.dn⟩
theorem ZD.op (h : ZD w W z n hi m s t k cs ct ck L gs M gm db dc G) (ho : Zn w W' z n L' gs' G) (hs : Stay G W W') : ZD w W' z n hi m s t k cs ct ck L' gs' M gm db dc G :=
  ⟨ho, h.mb.keeps hs fun b hb e => e (h.inG b hb), h.inG, h.len, h.hi, (hs.block db h.deed.lt fun e => e h.dG).trans h.deed, h.dG, h.dn⟩
theorem ZD.mod (h : ZD w W z n hi m s t k cs ct ck L gs M gm db dc G) (hr : MB hi W' m s t k cs ct ck M' gm') (hl : M'.length = n) (hk : Keeps W W' (mf m s t k)) : ZD w W' z n hi m s t k cs ct ck L gs M' gm' db dc G :=
  ⟨h.zn.other hk fun c _ e => ⟨h.inG c e, Nat.le_trans h.hi (h.mb.lt c e).1⟩, hr, h.inG, hl, h.hi, (hk.block db h.deed.lt h.dn).trans h.deed, h.dG, h.dn⟩
theorem ZD.cells {a b c d : Value} (h : ZD w W z n hi m s t k cs ct ck L gs M gm db #[a, b, c, d] G) : W.cell? ⟨db, 0, none⟩ = some a ∧ W.cell? ⟨db, 1, none⟩ = some b ∧ W.cell? ⟨db, 2, none⟩ = some c ∧ W.cell? ⟨db, 3, none⟩ = some d := ⟨h.deed.cell 0, h.deed.cell 1, h.deed.cell 2, h.deed.cell 3⟩
/-- At the head of the loop. -/
def ZQ (w W : World) (z n hi m s t k cs ct ck : Nat) (L : List Bk) (gs : List Gp) (M : List Bool) : Prop :=
  (∃ G, Zn w W z n L gs G ∧ MB hi W m s t k cs ct ck M gs ∧ ∀ b, mf m s t k b → G b) ∧ M.length = n ∧ w.heap.size ≤ hi ∧ ∀ x, covB L x = M.getD x false
theorem ZQ.lay (h : ZQ w W z n hi m s t k cs ct ck L gs M) (dc : Array Value) : ∃ G, ZD w (W.alloc (.cells dc 36)) z n hi m s t k cs ct ck L gs M gs W.heap.size dc G := by
  obtain ⟨⟨G, h1, h2, h3⟩, h4, h5, h6⟩ := h
  have hb : Below W.heap.size W (W.alloc (.cells dc 36)) := (Below.refl _ _).alloc (Nat.le_refl _) _
  exact ⟨plus G W (W.alloc (.cells dc 36)), h1.more hb, h2.below hb, fun b hb => Or.inl (h3 b hb), h4, h5, Laid.new _ _ _, Or.inr ⟨Nat.le_refl _, by simp⟩, fun e => by have := (h2.lt _ e).2; omega⟩
theorem ZD.back (h : ZD w W z n hi m s t k cs ct ck L gs M gs db dc G) (hc : ∀ x, covB L x = M.getD x false) : ZQ w W z n hi m s t k cs ct ck L gs M := ⟨⟨G, h.zn, h.mb, h.inG⟩, h.len, h.hi, hc⟩
theorem ZQ.same (h : ZQ w W z n hi m s t k cs ct ck L gs M) : Calls Tryd.prog 10 #[.pointer (some ⟨z, 0, none⟩), .pointer (some ⟨m, 0, none⟩)] W fun e w' => e = .returned (.bool true) ∧ ZQ w w' z n hi m s t k cs ct ck L gs M := by
  obtain ⟨⟨G, h1, h2, h3⟩, h4, h5, h6⟩ := h
  subst h4
  have h1' := h1
  obtain ⟨F, k1, k2, k3, k4, k5⟩ := h1
  refine (same8_any k3 h2 h6).mono ?_
  rintro e w' ⟨rfl, hb⟩
  exact ⟨rfl, ⟨G, h1'.below hb, h2.below hb, h3⟩, rfl, h5, h6⟩
theorem ZQ.frame (h : ZQ w W z n hi m s t k cs ct ck L gs M) : Below w.heap.size w W := by
  obtain ⟨⟨G, h1, _⟩, _⟩ := h
  exact h1.frame
end
/-- What was told, and what is amiss. -/
def Rgt (s11 s12 : Value) : Prop :=
  (s12 = .int .i64 0 ∧ s11 = .nilIface) ∨ (s12 = .int .i64 1 ∧ s11 = .iface 28 (.int .i64 1)) ∨ (s12 = .int .i64 5 ∧ s11 = .iface 28 (.int .i64 5)) ∨ (s12 = .int .i64 7 ∧ s11 = .iface 28 (.int .i64 7))
/-- Behind a deed. -/
def ZE (w : World) (z n hi m s t k cs ct ck : Nat) (W : World) : Prop := ∃ L gs M, ZQ w W z n hi m s t k cs ct ck L gs M
end Go.Proofs.YtmmbfgkfidconaaDoor
