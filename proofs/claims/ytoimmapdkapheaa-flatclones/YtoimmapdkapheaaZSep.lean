/- Things that lie in blocks of their own, side by side: what a call on one of them leaves of the others. No word of the program. -/
import Derived.Test.YtoimmapdkapheaaZMap
import Derived.Test.YtoimmapdkapheaaZ
namespace Go.Proofs.Ytoimmapdkapheaa
set_option maxRecDepth 4000
open Go.RowKit

/-- A thing: which blocks it has, and what lies there. -/
structure Th where
  In : (Nat → Prop) → World → Prop
  lt : ∀ {F : Nat → Prop} {w : World}, In F w → ∀ c, F c → c < w.heap.size
  keeps : ∀ {F s : Nat → Prop} {w w' : World}, In F w → Keeps w w' s → (∀ c, F c → ¬ s c) → In F w'

def Th.and (X Y : Th) : Th where
  In F w := ∃ A B, (∀ c, F c ↔ A c ∨ B c) ∧ (∀ c, A c → B c → False) ∧ X.In A w ∧ Y.In B w
  lt := by
    rintro F w ⟨A, B, h1, _, h3, h4⟩ c hc
    rcases (h1 c).1 hc with h | h
    · exact X.lt h3 c h
    · exact Y.lt h4 c h
  keeps := by
    rintro F s w w' ⟨A, B, h1, h2, h3, h4⟩ hk hs
    exact ⟨A, B, h1, h2, X.keeps h3 hk fun c hc => hs c ((h1 c).2 (Or.inl hc)), Y.keeps h4 hk fun c hc => hs c ((h1 c).2 (Or.inr hc))⟩
def Th.emp : Th where
  In F _ := ∀ c, ¬ F c
  lt h c hc := absurd hc (h c)
  keeps h _ _ := h
def Th.ex {ι : Type} (X : ι → Th) : Th where
  In F w := ∃ i, (X i).In F w
  lt := by rintro F w ⟨i, h⟩; exact (X i).lt h
  keeps := by rintro F s w w' ⟨i, h⟩ hk hs; exact ⟨i, (X i).keeps h hk hs⟩
def Th.when (p : Prop) (X : Th) : Th where
  In F w := p ∧ X.In F w
  lt h := X.lt h.2
  keeps h hk hs := ⟨h.1, X.keeps h.2 hk hs⟩
def Th.all : List Th → Th
  | [] => .emp
  | X :: L => X.and (all L)
def Th.le (X Y : Th) : Prop := ∀ {F : Nat → Prop} {w : World}, X.In F w → Y.In F w

theorem Th.le.refl (X : Th) : X.le X := fun h => h
theorem Th.le.trans {X Y Z : Th} (h : X.le Y) (k : Y.le Z) : X.le Z := fun x => k (h x)
theorem and_mono {X X' Y Y' : Th} (h : X.le X') (k : Y.le Y') : (X.and Y).le (X'.and Y') := by
  rintro F w ⟨A, B, h1, h2, h3, h4⟩
  exact ⟨A, B, h1, h2, h h3, k h4⟩
theorem and_comm (X Y : Th) : (X.and Y).le (Y.and X) := by
  rintro F w ⟨A, B, h1, h2, h3, h4⟩
  exact ⟨B, A, fun c => (h1 c).trans Or.comm, fun c hb ha => h2 c ha hb, h4, h3⟩
theorem and_assoc (X Y Z : Th) : ((X.and Y).and Z).le (X.and (Y.and Z)) := by
  rintro F w ⟨A, B, h1, h2, ⟨C, D, g1, g2, g3, g4⟩, h4⟩
  refine ⟨C, fun c => D c ∨ B c, fun c => ?_, fun c hc hd => ?_, g3, D, B, fun _ => Iff.rfl, fun c hd hb => h2 c ((g1 c).2 (Or.inr hd)) hb, g4, h4⟩
  · rw [h1 c, g1 c, or_assoc]
  · rcases hd with hd | hd
    · exact g2 c hc hd
    · exact h2 c ((g1 c).2 (Or.inl hc)) hd
theorem and_left (X Y Z : Th) : (X.and (Y.and Z)).le (Y.and (X.and Z)) := by
  rintro F w ⟨A, B, h1, h2, h3, C, D, g1, g2, g3, g4⟩
  refine ⟨C, fun c => A c ∨ D c, fun c => ?_, fun c hc hd => ?_, g3, A, D, fun _ => Iff.rfl, fun c ha hd => h2 c ha ((g1 c).2 (Or.inr hd)), h3, g4⟩
  · rw [h1 c, g1 c]
    constructor
    · rintro (h | h | h)
      · exact Or.inr (Or.inl h)
      · exact Or.inl h
      · exact Or.inr (Or.inr h)
    · rintro (h | h | h)
      · exact Or.inr (Or.inl h)
      · exact Or.inl h
      · exact Or.inr (Or.inr h)
  · rcases hd with hd | hd
    · exact h2 c hd ((g1 c).2 (Or.inl hc))
    · exact g2 c hc hd
theorem and_assoc' (X Y Z : Th) : (X.and (Y.and Z)).le ((X.and Y).and Z) := fun h => and_comm _ _ (and_assoc Z X Y (and_comm _ _ (and_assoc Y Z X (and_comm _ _ h))))
theorem all_pick (X : Th) (B : List Th) : ∀ A : List Th, (Th.all (A ++ X :: B)).le (X.and (Th.all (A ++ B)))
  | [] => Th.le.refl _
  | Y :: A => fun h => and_left _ _ _ (and_mono (Th.le.refl Y) (all_pick X B A) h)
theorem all_put (X : Th) (B : List Th) : ∀ A : List Th, (X.and (Th.all (A ++ B))).le (Th.all (A ++ X :: B))
  | [] => Th.le.refl _
  | Y :: A => fun h => and_mono (Th.le.refl Y) (all_put X B A) (and_left _ _ _ h)
theorem all_snoc (X : Th) (A : List Th) : (X.and (Th.all A)).le (Th.all (A ++ [X])) := fun h => all_put X [] A (by rw [List.append_nil]; exact h)
theorem and_emp (X : Th) : (X.and .emp).le X := by
  rintro F w ⟨A, B, h1, h2, h3, h4⟩
  have e : A = F := by
    funext c
    refine propext ⟨fun h => (h1 c).2 (Or.inl h), fun h => ?_⟩
    rcases (h1 c).1 h with k | k
    · exact k
    · exact absurd k (h4 c)
  rw [← e]
  exact h3
theorem emp_and (X : Th) : X.le (X.and .emp) := fun {F w} h => ⟨F, fun _ => False, fun c => by simp, fun _ _ h => h, h, fun _ h => h⟩

/-- Since w, in which F lay, it has become X: all beside F stays. -/
def Bec (F : Nat → Prop) (w : World) (X : Th) (w' : World) : Prop := ∃ F', (∀ c, F' c → F c ∨ w.heap.size ≤ c) ∧ X.In F' w' ∧ Keeps w w' F
section
variable {F : Nat → Prop} {w w' w'' : World} {X Y Z : Th}
theorem Bec.refl (h : X.In F w) : Bec F w X w := ⟨F, fun _ h => Or.inl h, h, Keeps.refl _ _⟩
theorem Bec.imp (h : Bec F w X w') (k : X.le Y) : Bec F w Y w' := by
  obtain ⟨F', h1, h2, h3⟩ := h
  exact ⟨F', h1, k h2, h3⟩
theorem Bec.keep (h : Bec F w X w') : Keeps w w' F := by
  obtain ⟨F', h1, h2, h3⟩ := h
  exact h3
theorem Bec.next (h : Bec F w X w') : ∃ A, X.In A w' ∧ ∀ {X' : Th} {w'' : World}, Bec A w' X' w'' → Bec F w X' w'' := by
  obtain ⟨A, h1, h2, h3⟩ := h
  refine ⟨A, h2, fun {X' w''} k => ?_⟩
  obtain ⟨B, k1, k2, k3⟩ := k
  have hz := h3.size
  refine ⟨B, fun c hc => ?_, k2, h3.trans k3 fun c hb hc => ?_⟩
  · rcases k1 c hc with k | k
    · exact h1 c k
    · exact Or.inr (by omega)
  · rcases h1 c hc with k | k
    · exact k
    · omega
theorem Bec.below (h : Bec F w X w') (hb : Below w'.heap.size w' w'') : Bec F w X w'' := by
  obtain ⟨A, h1, h2⟩ := h.next
  exact h2 ⟨A, fun _ h => Or.inl h, X.keeps h1 (Keeps.of_below hb (fun _ => False)) fun _ _ e => e, Keeps.of_below hb _⟩
theorem In.below (h : X.In F w) (hb : Below w.heap.size w w') : Bec F w X w' := (Bec.refl h).below hb
theorem In.open (h : (X.and Y).In F w) : ∃ A, X.In A w ∧ ∀ {X' : Th} {w' : World}, Bec A w X' w' → Bec F w (X'.and Y) w' := by
  obtain ⟨A, B, h1, h2, h3, h4⟩ := h
  refine ⟨A, h3, fun {X' w'} k => ?_⟩
  obtain ⟨C, k1, k2, k3⟩ := k
  refine ⟨fun c => C c ∨ B c, fun c hc => ?_, ⟨C, B, fun _ => Iff.rfl, fun c hc hb => ?_, k2, Y.keeps h4 k3 fun c hb ha => h2 c ha hb⟩, k3.mono fun c _ ha => (h1 c).2 (Or.inl ha)⟩
  · rcases hc with hc | hc
    · exact (k1 c hc).imp (fun h => (h1 c).2 (Or.inl h)) id
    · exact Or.inl ((h1 c).2 (Or.inr hc))
  · rcases k1 c hc with h | h
    · exact h2 c h hb
    · have := Y.lt h4 c hb
      omega
theorem Bec.open (h : Bec F w (X.and Y) w') : ∃ A, X.In A w' ∧ ∀ {X' : Th} {w'' : World}, Bec A w' X' w'' → Bec F w (X'.and Y) w'' := by
  obtain ⟨A, h1, h2⟩ := h.next
  obtain ⟨B, h3, h4⟩ := In.open h1
  exact ⟨B, h3, fun k => h2 (h4 k)⟩
/-- A new thing beside. -/
theorem Bec.new (h : Bec F w X w') (hz : Bec (fun _ => False) w' Z w'') : Bec F w (Z.and X) w'' := by
  obtain ⟨A, h1, h2⟩ := h.next
  obtain ⟨B, k1, k2, k3⟩ := hz
  refine h2 ⟨fun c => B c ∨ A c, fun c hc => ?_, ⟨B, A, fun _ => Iff.rfl, fun c hb ha => ?_, k2, X.keeps h1 k3 fun _ _ e => e⟩, k3.mono fun _ _ e => e.elim⟩
  · rcases hc with hc | hc
    · exact Or.inr ((k1 c hc).resolve_left fun e => e)
    · exact Or.inl hc
  · have := X.lt h1 c ha
    have := (k1 c hb).resolve_left fun e => e
    omega
theorem Bec.frame (h : Bec (fun _ => False) w X w') : Below w.heap.size w w' := h.keep.below (Nat.le_refl _) fun _ _ e => e.elim
theorem Bec.more {G : Nat → Prop} (h : Bec F w X w') (hg : ∀ c, F c → G c) : Bec G w X w' := by
  obtain ⟨F', h1, h2, h3⟩ := h
  exact ⟨F', fun c hc => (h1 c hc).imp (hg c) id, h2, h3.mono fun c _ => hg c⟩
/-- What is dropped. -/
theorem Bec.left (h : Bec F w (X.and Y) w') : Bec F w X w' := by
  obtain ⟨F', h1, ⟨A, B, k1, k2, k3, k4⟩, h3⟩ := h
  exact ⟨A, fun c hc => h1 c ((k1 c).2 (Or.inl hc)), k3, h3⟩
theorem Bec.right (h : Bec F w (X.and Y) w') : Bec F w Y w' := (h.imp (and_comm X Y)).left
theorem bec_false {X : Th} (h : X.In F w') (hF : ∀ c, F c → w.heap.size ≤ c) (hb : Below w.heap.size w w') : Bec (fun _ => False) w X w' := ⟨F, fun c hc => Or.inr (hF c hc), h, Keeps.of_below hb _⟩
theorem emp_new (w : World) : Bec (fun _ => False) w .emp w := Bec.refl fun _ h => h
/-- Behind what is new: what was there stays. -/
theorem Bec.base (hb : Below w.heap.size w w') (h : Bec (fun _ => False) w' X w'') : Bec (fun _ => False) w X w'' := by
  obtain ⟨F', h1, h2, h3⟩ := h
  have hz := hb.size
  exact ⟨F', fun c hc => Or.inr (by have := (h1 c hc).resolve_left fun e => e; omega), h2, (Keeps.of_below hb _).trans h3 fun _ _ e => e⟩
end

/-- A block of cells. -/
def Th.box (b : Nat) (t : TypeId) (cs : Array Value) : Th where
  In F w := (∀ c, F c ↔ c = b) ∧ Laid w b t cs
  lt h c hc := by rw [(h.1 c).1 hc]; exact h.2.lt
  keeps h hk hs := ⟨h.1, (hk.block _ h.2.lt (hs _ ((h.1 _).2 rfl))).trans h.2⟩
def Th.row {α : Type} (R : Rec α) (v : Value) (l : List α) : Th where
  In F w := (∀ c, F c ↔ v.ownBlock = some c) ∧ Row R 0 w v l
  lt h c hc := (h.2.lt c ((h.1 c).1 hc)).2
  keeps h hk hs := ⟨h.1, hk.row h.2 fun g hg => hs g ((h.1 g).2 hg)⟩
def Th.mp {P : Program} {α β : Type} (M : Mk P α β) (b : Nat) (l : List (α × β)) : Th where
  In F w := (∀ c, F c ↔ c = b) ∧ Mp M w b l
  lt h c hc := by rw [(h.1 c).1 hc]; exact h.2.lt
  keeps h hk hs := ⟨h.1, h.2.same (hk.block _ h.2.lt (hs _ ((h.1 _).2 rfl)))⟩
section
variable {F : Nat → Prop} {w w' : World}
theorem box_put {b : Nat} {t : TypeId} {cs : Array Value} (h : (Th.box b t cs).In F w) (o : Nat) (v : Value) : Bec F w (.box b t (cs.setIfInBounds o v)) (w.setCell ⟨b, o, none⟩ v) :=
  ⟨F, fun _ h => Or.inl h, ⟨h.1, heap_setCell_same w b o _ _ v h.2⟩, (Keeps.set w b o v).mono fun c _ e => (h.1 c).2 e⟩
theorem box_new (w : World) (t : TypeId) (cs : Array Value) : Bec (fun _ => False) w (.box w.heap.size t cs) (w.alloc (.cells cs t)) :=
  bec_false (F := fun c => c = w.heap.size) ⟨fun _ => Iff.rfl, Laid.new _ _ _⟩ (fun c hc => by omega) ((Below.refl _ _).alloc (Nat.le_refl _) _)
theorem row_in {α : Type} {R : Rec α} {B : Nat} {v : Value} {l : List α} (h : Row R B w v l) : (Th.row R v l).In (fun c => v.ownBlock = some c) w := ⟨fun _ => Iff.rfl, h.lower (Nat.zero_le _)⟩
theorem row_new {α : Type} {R : Rec α} {v : Value} {l : List α} (h : Row R w.heap.size w' v l) (hb : Below w.heap.size w w') : Bec (fun _ => False) w (.row R v l) w' :=
  bec_false (row_in h) (fun c hc => (h.lt c hc).1) hb
theorem mp_new {P : Program} {α β : Type} {M : Mk P α β} {l : List (α × β)} {b : Nat} (h : Mp M w' b l) (hbn : w.heap.size ≤ b) (hb : Below w.heap.size w w') : Bec (fun _ => False) w (.mp M b l) w' :=
  bec_false (F := fun c => c = b) ⟨fun _ => Iff.rfl, h⟩ (fun c hc => by omega) hb
theorem mp_turn {P : Program} {α β : Type} {M : Mk P α β} {l l' : List (α × β)} {b : Nat} (h : (Th.mp M b l).In F w) (h' : Mp M w' b l') (hk : w.mapTurned w' b) : Bec F w (.mp M b l') w' :=
  ⟨F, fun _ h => Or.inl h, ⟨h.1, h'⟩, (Keeps.of_grown hk.grown).mono fun c _ e => (h.1 c).2 (by simpa using e.symm)⟩
end
end Go.Proofs.Ytoimmapdkapheaa
