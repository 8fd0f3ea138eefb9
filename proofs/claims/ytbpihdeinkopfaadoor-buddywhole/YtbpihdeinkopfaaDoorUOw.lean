/- A store of one's own, beside other things that stay: what its calls tell. Condition: the table of math/bits lies as its text lays it. -/
import Derived.Test.YtbpihdeinkopfaaDoorUUp
namespace Go.Proofs.YtbpihdeinkopfaaDoor
open Go.RowKit

/-- A store whose blocks are new since W, beside the blocks of G. -/
def Ow (W w : World) (p n : Nat) (L : List Bk) (G : Nat → Prop) : Prop :=
  ∃ F v, (∀ c, F c → W.heap.size ≤ c) ∧ (∀ c, F c → ¬ G c) ∧ Sto F w p n v L ∧ Okl n L ∧ Below W.heap.size W w ∧ ∀ c, G c → c < w.heap.size
/-- The blocks of G stay. -/
abbrev Stay (G : Nat → Prop) (w w' : World) : Prop := Keeps w w' (fun b => ¬ G b)
/-- G, and what is new since w. -/
def plus (G : Nat → Prop) (w w' : World) (c : Nat) : Prop := G c ∨ w.heap.size ≤ c ∧ c < w'.heap.size
section
variable {W w w' : World} {p n : Nat} {L : List Bk} {G : Nat → Prop}
theorem Ow.frame (h : Ow W w p n L G) : Below W.heap.size W w := by
  obtain ⟨F, v, _, _, _, _, h, _⟩ := h
  exact h
theorem Ow.ok (h : Ow W w p n L G) : Okl n L := by
  obtain ⟨F, v, _, _, _, h, _, _⟩ := h
  exact h
theorem Ow.lt (h : Ow W w p n L G) : ∀ c, G c → c < w.heap.size := by
  obtain ⟨F, v, _, _, _, _, _, h⟩ := h
  exact h
theorem Ow.below (h : Ow W w p n L G) (hb : Below w.heap.size w w') : Ow W w' p n L G := by
  obtain ⟨F, v, h1, h2, h3, h4, h5, h6⟩ := h
  exact ⟨F, v, h1, h2, h3.below hb, h4, below_call' h5 hb, fun c hc => Nat.lt_of_lt_of_le (h6 c hc) hb.size⟩
/-- What is new joins G. -/
theorem Ow.more (h : Ow W w p n L G) (hb : Below w.heap.size w w') : Ow W w' p n L (plus G w w') := by
  obtain ⟨F, v, h1, h2, h3, h4, h5, h6⟩ := h
  refine ⟨F, v, h1, fun c hc e => ?_, h3.below hb, h4, below_call' h5 hb, fun c hc => ?_⟩
  · rcases e with e | e
    · exact h2 c hc e
    · have := h3.lt c hc; omega
  · rcases hc with hc | hc
    · exact Nat.lt_of_lt_of_le (h6 c hc) hb.size
    · exact hc.2
theorem Ow.less {G' : Nat → Prop} (h : Ow W w p n L G) (hg : ∀ c, G' c → G c) : Ow W w p n L G' := by
  obtain ⟨F, v, h1, h2, h3, h4, h5, h6⟩ := h
  exact ⟨F, v, h1, fun c hc e => h2 c hc (hg c e), h3, h4, h5, fun c hc => h6 c (hg c hc)⟩
/-- Something in G is turned. -/
theorem Ow.other {s : Nat → Prop} (h : Ow W w p n L G) (hk : Keeps w w' s) (hs : ∀ c, c < w.heap.size → s c → G c ∧ W.heap.size ≤ c) : Ow W w' p n L G := by
  obtain ⟨F, v, h1, h2, h3, h4, h5, h6⟩ := h
  exact ⟨F, v, h1, h2, h3.keeps hk fun c hc e => h2 c hc (hs c (h3.lt c hc) e).1, h4, h5.trans (hk.below h5.size fun c hc e => (hs c hc e).2), fun c hc => Nat.lt_of_lt_of_le (h6 c hc) hk.size⟩
theorem Ow.turn {F : Nat → Prop} {v : Value} {L' : List Bk} (h1 : ∀ c, F c → W.heap.size ≤ c) (h2 : ∀ c, F c → ¬ G c) (_h3 : Sto F w p n v L) (h5 : Below W.heap.size W w) (h6 : ∀ c, G c → c < w.heap.size) (hsp : SP F w p n L' w') (hok : Okl n L') : Ow W w' p n L' G ∧ Stay G w w' := by
  obtain ⟨v', s1, s2⟩ := hsp
  refine ⟨⟨_, v', fun c hc => ?_, fun c hc e => ?_, s1, hok, h5.trans (s2.below h5.size fun c _ e => h1 c e), fun c hc => Nat.lt_of_lt_of_le (h6 c hc) s2.size⟩, s2.mono fun c _ e => h2 c e⟩
  · rcases hc with hc | hc
    · exact h1 c hc
    · exact Nat.le_trans h5.size hc.1
  · rcases hc with hc | hc
    · exact h2 c hc e
    · have := h6 c e; omega
theorem Stay.of_below (hb : Below w.heap.size w w') (G : Nat → Prop) : Stay G w w' := Keeps.of_below hb _
theorem Stay.row {α : Type} {R : Rec α} {B : Nat} {v : Value} {l : List α} (h : Stay G w w') (hr : Row R B w v l) (hn : ∀ g, v.ownBlock = some g → G g) : Row R B w' v l := Keeps.row h hr fun g hg e => e (hn g hg)
theorem Stay.sto {F : Nat → Prop} {v : Value} (h : Stay G w w') (hs : Sto F w p n v L) (hn : ∀ c, F c → G c) : Sto F w' p n v L := hs.keeps h fun c hc e => e (hn c hc)
theorem Ow.tab (h : Ow W w p n L G) (hT : Tab W) : Tab w := hT.below h.frame (Nat.le_refl _)

theorem owNew (hT : Tab W) (hb : Below W.heap.size W w) (hG : ∀ c, G c → c < w.heap.size) (n : Nat) (h1 : 1 ≤ n) (h2 : n ≤ 512) :
    Calls Tryd.prog 9 #[.int .i64 n] w fun e w' => ∃ q, e = .returned (.tuple #[.pointer (some ⟨q, 0, none⟩), .nilIface]) ∧ Ow W w' q n (blkL 0 n) G ∧ Below w.heap.size w w' := by
  refine (new_yes n w (hT.below hb (Nat.le_refl _)) h1 h2).mono ?_
  rintro e w' ⟨q, rfl, ⟨v, hs⟩, hb'⟩
  exact ⟨q, rfl, ⟨_, v, fun c hc => Nat.le_trans hb.size hc.1, fun c hc e => by have := hG c e; omega, hs, new_okl h2, below_call' hb hb', fun c hc => Nat.lt_of_lt_of_le (hG c hc) hb'.size⟩, hb'⟩
/-- Take's answers. -/
def TakeO (W w : World) (p n : Nat) (L : List Bk) (G : Nat → Prop) (o : Nat) (e : Ending) (w' : World) : Prop :=
  match lst o L L.length with
  | none => e = .returned (.tuple #[.int .i64 0, .iface 28 (.int .i64 5)]) ∧ Ow W w' p n L G ∧ Stay G w w'
  | some m => e = .returned (.tuple #[.int .i64 (L.getD m (0, 0)).1, .nilIface]) ∧ ∃ L', Ow W w' p n L' G ∧ Stay G w w' ∧ ∀ x, cov L' x ↔ cov L x ∧ ¬ inB ((L.getD m (0, 0)).1, o) x
theorem Ow.take (h : Ow W w p n L G) (hT : Tab W) (o : Nat) (h5 : o ≤ 5) : Calls Tryd.prog 14 #[.pointer (some ⟨p, 0, none⟩), .int .i64 o] w (TakeO W w p n L G o) := by
  have hTw := h.tab hT
  have h' := h
  obtain ⟨F, v, h1, h2, h3, h4, hb, h6⟩ := h
  refine (take_any h3 h4 hTw o h5).mono ?_
  intro e w' ht
  unfold TakeP at ht
  unfold TakeO
  cases hl : lst o L L.length with
  | none =>
    rw [hl] at ht
    exact ⟨ht.1, h'.below ht.2, Stay.of_below ht.2 G⟩
  | some m =>
    rw [hl] at ht
    obtain ⟨e1, L', s1, s2, s3⟩ := ht
    have := Ow.turn h1 h2 h3 hb h6 s1 s2
    exact ⟨e1, L', this.1, this.2, s3⟩
/-- TakeAt's, where there is a block. -/
def TakeAtO (W w : World) (p n : Nat) (L : List Bk) (G : Nat → Prop) (b : Bk) (e : Ending) (w' : World) : Prop :=
  (allB L b true → e = .returned .nilIface ∧ ∃ L', Ow W w' p n L' G ∧ Stay G w w' ∧ ∀ x, cov L' x ↔ cov L x ∧ ¬ inB b x) ∧ (¬ allB L b true → e = .returned (.iface 28 (.int .i64 7)) ∧ Ow W w' p n L G ∧ Stay G w w')
theorem Ow.takeAt (h : Ow W w p n L G) (hT : Tab W) (b : Bk) (hb : alB b) (hbn : bend b ≤ n) : Calls Tryd.prog 16 #[.pointer (some ⟨p, 0, none⟩), .int .i64 b.1, .int .i64 b.2] w (TakeAtO W w p n L G b) := by
  have hTw := h.tab hT
  have h' := h
  obtain ⟨F, v, h1, h2, h3, h4, hbe, h6⟩ := h
  refine (takeAt_any h3 h4 hTw b hb hbn).mono ?_
  rintro e w' ⟨t1, t2⟩
  refine ⟨fun ha => ?_, fun ha => ?_⟩
  · obtain ⟨e1, L', s1, s2, s3⟩ := t1 ha
    have := Ow.turn h1 h2 h3 hbe h6 s1 s2
    exact ⟨e1, L', this.1, this.2, s3⟩
  · have := t2 ha
    exact ⟨this.1, h'.below this.2, Stay.of_below this.2 G⟩
theorem Ow.takeAtNo (h : Ow W w p n L G) (z o : Int) (hz : -9223372036854775808 ≤ z ∧ z ≤ 9223372036854775807) (hh : hasB n z o = false) :
    Calls Tryd.prog 16 #[.pointer (some ⟨p, 0, none⟩), .int .i64 z, .int .i64 o] w fun e w' => e = .returned (.iface 28 (.int .i64 1)) ∧ Ow W w' p n L G ∧ Stay G w w' := by
  have h' := h
  obtain ⟨F, v, h1, h2, h3, h4, hbe, h6⟩ := h
  refine (takeAt_no h3 h4 z o hz hh).mono ?_
  rintro e w' ⟨e1, hb⟩
  exact ⟨e1, h'.below hb, Stay.of_below hb G⟩
/-- Give's, where there is a block. -/
def GiveO (W w : World) (p n : Nat) (L : List Bk) (G : Nat → Prop) (b : Bk) (e : Ending) (w' : World) : Prop :=
  (allB L b false → e = .returned .nilIface ∧ ∃ L', Ow W w' p n L' G ∧ Stay G w w' ∧ ∀ x, cov L' x ↔ cov L x ∨ inB b x) ∧ (¬ allB L b false → e = .returned (.iface 28 (.int .i64 7)) ∧ Ow W w' p n L G ∧ Stay G w w')
theorem Ow.give (h : Ow W w p n L G) (b : Bk) (hb : alB b) (hbn : bend b ≤ n) : Calls Tryd.prog 19 #[.pointer (some ⟨p, 0, none⟩), .int .i64 b.1, .int .i64 b.2] w (GiveO W w p n L G b) := by
  have h' := h
  obtain ⟨F, v, h1, h2, h3, h4, hbe, h6⟩ := h
  refine (give_any h3 h4 b hb hbn).mono ?_
  rintro e w' ⟨t1, t2⟩
  refine ⟨fun ha => ?_, fun ha => ?_⟩
  · obtain ⟨e1, L', s1, s2, s3⟩ := t1 ha
    have := Ow.turn h1 h2 h3 hbe h6 s1 s2
    exact ⟨e1, L', this.1, this.2, s3⟩
  · have := t2 ha
    exact ⟨this.1, h'.below this.2, Stay.of_below this.2 G⟩
theorem Ow.giveNo (h : Ow W w p n L G) (z o : Int) (hz : -9223372036854775808 ≤ z ∧ z ≤ 9223372036854775807) (hh : hasB n z o = false) :
    Calls Tryd.prog 19 #[.pointer (some ⟨p, 0, none⟩), .int .i64 z, .int .i64 o] w fun e w' => e = .returned (.iface 28 (.int .i64 1)) ∧ Ow W w' p n L G ∧ Stay G w w' := by
  have h' := h
  obtain ⟨F, v, h1, h2, h3, h4, hbe, h6⟩ := h
  refine (give_no h3 h4 z o hz hh).mono ?_
  rintro e w' ⟨e1, hb⟩
  exact ⟨e1, h'.below hb, Stay.of_below hb G⟩
theorem Ow.free (h : Ow W w p n L G) : Calls Tryd.prog 20 #[.pointer (some ⟨p, 0, none⟩)] w (ClonePrB w L) := by
  obtain ⟨F, v, h1, h2, h3, h4, hbe, h6⟩ := h
  exact free_any h3 h4
theorem Ow.count (h : Ow W w p n L G) : Calls Tryd.prog 21 #[.pointer (some ⟨p, 0, none⟩)] w fun e w' => e = .returned (.int .i64 (size L)) ∧ Below w.heap.size w w' := by
  obtain ⟨F, v, h1, h2, h3, h4, hbe, h6⟩ := h
  exact count_any h3 h4
theorem Ow.isFree (h : Ow W w p n L G) (z : Int) : Calls Tryd.prog 24 #[.pointer (some ⟨p, 0, none⟩), .int .i64 z] w fun e w' => e = .returned (.bool (freeB L z)) ∧ Below w.heap.size w w' := by
  obtain ⟨F, v, h1, h2, h3, h4, hbe, h6⟩ := h
  exact isFree_any h3 h4 z
/-- A clone: another store, in what is new. -/
theorem Ow.clone (h : Ow W w p n L G) : Calls Tryd.prog 23 #[.pointer (some ⟨p, 0, none⟩)] w fun e w' => ∃ q, e = .returned (.pointer (some ⟨q, 0, none⟩)) ∧ NewS w n L q w' ∧ Below w.heap.size w w' := by
  obtain ⟨F, v, h1, h2, h3, h4, hbe, h6⟩ := h
  exact cloneS_any h3 h4
end
end Go.Proofs.YtbpihdeinkopfaaDoor
