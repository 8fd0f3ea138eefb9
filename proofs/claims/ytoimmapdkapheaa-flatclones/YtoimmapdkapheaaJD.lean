/- Own texts, joined: ZSep, ZReg, ZRow3, ZRow4, ZMap2, FMod, AOf, FPush, FRMk. -/
import Derived.Test.YtoimmapdkapheaaJC
import Derived.Test.YtoimmapdkapheaaJA
import Derived.Deep.RegionHeld3
import Derived.Lib.Overlaps
import Derived.Lib.AppendZerosOnto
import Derived.Laws.NewBlocks
import Derived.Laws.AppendOwn
/- Things that lie in blocks of their own, side by side: what a call on one of them leaves of the others. No word of the program. -/
namespace Go.Proofs.Ytoimmapdkapheaa
set_option maxRecDepth 4000
open Go.RowKit

/-- A thing: which blocks it has, and what lies there. -/
structure Th where
  In : (Nat → Prop) → World → Prop
  lt : ∀ {F : Nat → Prop} {w : World}, In F w → ∀ c, F c → c < w.heap.size
  keeps : ∀ {F s : Nat → Prop} {w w' : World}, In F w → Keeps w w' s → (∀ c, F c → ¬ s c) → In F w'

def Th.and (X Y : Th) : Th where
  In F w := ∃ A B, (∀ c, F c ↔ A c ∨ B c) ∧ (∀ c, A c → B c → False) ∧ X.In A w ∧ Y.In B w
  lt := by
    rintro F w ⟨A, B, h1, _, h3, h4⟩ c hc
    rcases (h1 c).1 hc with h | h
    · exact X.lt h3 c h
    · exact Y.lt h4 c h
  keeps := by
    rintro F s w w' ⟨A, B, h1, h2, h3, h4⟩ hk hs
    exact ⟨A, B, h1, h2, X.keeps h3 hk fun c hc => hs c ((h1 c).2 (Or.inl hc)), Y.keeps h4 hk fun c hc => hs c ((h1 c).2 (Or.inr hc))⟩
def Th.emp : Th where
  In F _ := ∀ c, ¬ F c
  lt h c hc := absurd hc (h c)
  keeps h _ _ := h
def Th.ex {ι : Type} (X : ι → Th) : Th where
  In F w := ∃ i, (X i).In F w
  lt := by rintro F w ⟨i, h⟩; exact (X i).lt h
  keeps := by rintro F s w w' ⟨i, h⟩ hk hs; exact ⟨i, (X i).keeps h hk hs⟩
def Th.when (p : Prop) (X : Th) : Th where
  In F w := p ∧ X.In F w
  lt h := X.lt h.2
  keeps h hk hs := ⟨h.1, X.keeps h.2 hk hs⟩
def Th.all : List Th → Th
  | [] => .emp
  | X :: L => X.and (all L)
def Th.le (X Y : Th) : Prop := ∀ {F : Nat → Prop} {w : World}, X.In F w → Y.In F w

theorem Th.le.refl (X : Th) : X.le X := fun h => h
theorem Th.le.trans {X Y Z : Th} (h : X.le Y) (k : Y.le Z) : X.le Z := fun x => k (h x)
theorem and_mono {X X' Y Y' : Th} (h : X.le X') (k : Y.le Y') : (X.and Y).le (X'.and Y') := by
  rintro F w ⟨A, B, h1, h2, h3, h4⟩
  exact ⟨A, B, h1, h2, h h3, k h4⟩
theorem and_comm (X Y : Th) : (X.and Y).le (Y.and X) := by
  rintro F w ⟨A, B, h1, h2, h3, h4⟩
  exact ⟨B, A, fun c => (h1 c).trans Or.comm, fun c hb ha => h2 c ha hb, h4, h3⟩
theorem and_assoc (X Y Z : Th) : ((X.and Y).and Z).le (X.and (Y.and Z)) := by
  rintro F w ⟨A, B, h1, h2, ⟨C, D, g1, g2, g3, g4⟩, h4⟩
  refine ⟨C, fun c => D c ∨ B c, fun c => ?_, fun c hc hd => ?_, g3, D, B, fun _ => Iff.rfl, fun c hd hb => h2 c ((g1 c).2 (Or.inr hd)) hb, g4, h4⟩
  · rw [h1 c, g1 c, or_assoc]
  · rcases hd with hd | hd
    · exact g2 c hc hd
    · exact h2 c ((g1 c).2 (Or.inl hc)) hd
theorem and_left (X Y Z : Th) : (X.and (Y.and Z)).le (Y.and (X.and Z)) := by
  rintro F w ⟨A, B, h1, h2, h3, C, D, g1, g2, g3, g4⟩
  refine ⟨C, fun c => A c ∨ D c, fun c => ?_, fun c hc hd => ?_, g3, A, D, fun _ => Iff.rfl, fun c ha hd => h2 c ha ((g1 c).2 (Or.inr hd)), h3, g4⟩
  · rw [h1 c, g1 c]
    constructor
    · rintro (h | h | h)
      · exact Or.inr (Or.inl h)
      · exact Or.inl h
      · exact Or.inr (Or.inr h)
    · rintro (h | h | h)
      · exact Or.inr (Or.inl h)
      · exact Or.inl h
      · exact Or.inr (Or.inr h)
  · rcases hd with hd | hd
    · exact h2 c hd ((g1 c).2 (Or.inl hc))
    · exact g2 c hc hd
theorem and_assoc' (X Y Z : Th) : (X.and (Y.and Z)).le ((X.and Y).and Z) := fun h => and_comm _ _ (and_assoc Z X Y (and_comm _ _ (and_assoc Y Z X (and_comm _ _ h))))
theorem all_pick (X : Th) (B : List Th) : ∀ A : List Th, (Th.all (A ++ X :: B)).le (X.and (Th.all (A ++ B)))
  | [] => Th.le.refl _
  | Y :: A => fun h => and_left _ _ _ (and_mono (Th.le.refl Y) (all_pick X B A) h)
theorem all_put (X : Th) (B : List Th) : ∀ A : List Th, (X.and (Th.all (A ++ B))).le (Th.all (A ++ X :: B))
  | [] => Th.le.refl _
  | Y :: A => fun h => and_mono (Th.le.refl Y) (all_put X B A) (and_left _ _ _ h)
theorem all_snoc (X : Th) (A : List Th) : (X.and (Th.all A)).le (Th.all (A ++ [X])) := fun h => all_put X [] A (by rw [List.append_nil]; exact h)
theorem and_emp (X : Th) : (X.and .emp).le X := by
  rintro F w ⟨A, B, h1, h2, h3, h4⟩
  have e : A = F := by
    funext c
    refine propext ⟨fun h => (h1 c).2 (Or.inl h), fun h => ?_⟩
    rcases (h1 c).1 h with k | k
    · exact k
    · exact absurd k (h4 c)
  rw [← e]
  exact h3
theorem emp_and (X : Th) : X.le (X.and .emp) := fun {F w} h => ⟨F, fun _ => False, fun c => by simp, fun _ _ h => h, h, fun _ h => h⟩

/-- Since w, in which F lay, it has become X: all beside F stays. -/
def Bec (F : Nat → Prop) (w : World) (X : Th) (w' : World) : Prop := ∃ F', (∀ c, F' c → F c ∨ w.heap.size ≤ c) ∧ X.In F' w' ∧ Keeps w w' F
section
variable {F : Nat → Prop} {w w' w'' : World} {X Y Z : Th}
theorem Bec.refl (h : X.In F w) : Bec F w X w := ⟨F, fun _ h => Or.inl h, h, Keeps.refl _ _⟩
theorem Bec.imp (h : Bec F w X w') (k : X.le Y) : Bec F w Y w' := by
  obtain ⟨F', h1, h2, h3⟩ := h
  exact ⟨F', h1, k h2, h3⟩
theorem Bec.keep (h : Bec F w X w') : Keeps w w' F := by
  obtain ⟨F', h1, h2, h3⟩ := h
  exact h3
theorem Bec.next (h : Bec F w X w') : ∃ A, X.In A w' ∧ ∀ {X' : Th} {w'' : World}, Bec A w' X' w'' → Bec F w X' w'' := by
  obtain ⟨A, h1, h2, h3⟩ := h
  refine ⟨A, h2, fun {X' w''} k => ?_⟩
  obtain ⟨B, k1, k2, k3⟩ := k
  have hz := h3.size
  refine ⟨B, fun c hc => ?_, k2, h3.trans k3 fun c hb hc => ?_⟩
  · rcases k1 c hc with k | k
    · exact h1 c k
    · exact Or.inr (by omega)
  · rcases h1 c hc with k | k
    · exact k
    · omega
theorem Bec.below (h : Bec F w X w') (hb : Below w'.heap.size w' w'') : Bec F w X w'' := by
  obtain ⟨A, h1, h2⟩ := h.next
  exact h2 ⟨A, fun _ h => Or.inl h, X.keeps h1 (Keeps.of_below hb (fun _ => False)) fun _ _ e => e, Keeps.of_below hb _⟩
theorem In.below (h : X.In F w) (hb : Below w.heap.size w w') : Bec F w X w' := (Bec.refl h).below hb
theorem In.open (h : (X.and Y).In F w) : ∃ A, X.In A w ∧ ∀ {X' : Th} {w' : World}, Bec A w X' w' → Bec F w (X'.and Y) w' := by
  obtain ⟨A, B, h1, h2, h3, h4⟩ := h
  refine ⟨A, h3, fun {X' w'} k => ?_⟩
  obtain ⟨C, k1, k2, k3⟩ := k
  refine ⟨fun c => C c ∨ B c, fun c hc => ?_, ⟨C, B, fun _ => Iff.rfl, fun c hc hb => ?_, k2, Y.keeps h4 k3 fun c hb ha => h2 c ha hb⟩, k3.mono fun c _ ha => (h1 c).2 (Or.inl ha)⟩
  · rcases hc with hc | hc
    · exact (k1 c hc).imp (fun h => (h1 c).2 (Or.inl h)) id
    · exact Or.inl ((h1 c).2 (Or.inr hc))
  · rcases k1 c hc with h | h
    · exact h2 c h hb
    · have := Y.lt h4 c hb
      omega
theorem Bec.open (h : Bec F w (X.and Y) w') : ∃ A, X.In A w' ∧ ∀ {X' : Th} {w'' : World}, Bec A w' X' w'' → Bec F w (X'.and Y) w'' := by
  obtain ⟨A, h1, h2⟩ := h.next
  obtain ⟨B, h3, h4⟩ := In.open h1
  exact ⟨B, h3, fun k => h2 (h4 k)⟩
/-- A new thing beside. -/
theorem Bec.new (h : Bec F w X w') (hz : Bec (fun _ => False) w' Z w'') : Bec F w (Z.and X) w'' := by
  obtain ⟨A, h1, h2⟩ := h.next
  obtain ⟨B, k1, k2, k3⟩ := hz
  refine h2 ⟨fun c => B c ∨ A c, fun c hc => ?_, ⟨B, A, fun _ => Iff.rfl, fun c hb ha => ?_, k2, X.keeps h1 k3 fun _ _ e => e⟩, k3.mono fun _ _ e => e.elim⟩
  · rcases hc with hc | hc
    · exact Or.inr ((k1 c hc).resolve_left fun e => e)
    · exact Or.inl hc
  · have := X.lt h1 c ha
    have := (k1 c hb).resolve_left fun e => e
    omega
theorem Bec.frame (h : Bec (fun _ => False) w X w') : Below w.heap.size w w' := h.keep.below (Nat.le_refl _) fun _ _ e => e.elim
theorem Bec.more {G : Nat → Prop} (h : Bec F w X w') (hg : ∀ c, F c → G c) : Bec G w X w' := by
  obtain ⟨F', h1, h2, h3⟩ := h
  exact ⟨F', fun c hc => (h1 c hc).imp (hg c) id, h2, h3.mono fun c _ => hg c⟩
/-- What is dropped. -/
theorem Bec.left (h : Bec F w (X.and Y) w') : Bec F w X w' := by
  obtain ⟨F', h1, ⟨A, B, k1, k2, k3, k4⟩, h3⟩ := h
  exact ⟨A, fun c hc => h1 c ((k1 c).2 (Or.inl hc)), k3, h3⟩
theorem Bec.right (h : Bec F w (X.and Y) w') : Bec F w Y w' := (h.imp (and_comm X Y)).left
theorem bec_false {X : Th} (h : X.In F w') (hF : ∀ c, F c → w.heap.size ≤ c) (hb : Below w.heap.size w w') : Bec (fun _ => False) w X w' := ⟨F, fun c hc => Or.inr (hF c hc), h, Keeps.of_below hb _⟩
theorem emp_new (w : World) : Bec (fun _ => False) w .emp w := Bec.refl fun _ h => h
/-- Behind what is new: what was there stays. -/
theorem Bec.base (hb : Below w.heap.size w w') (h : Bec (fun _ => False) w' X w'') : Bec (fun _ => False) w X w'' := by
  obtain ⟨F', h1, h2, h3⟩ := h
  have hz := hb.size
  exact ⟨F', fun c hc => Or.inr (by have := (h1 c hc).resolve_left fun e => e; omega), h2, (Keeps.of_below hb _).trans h3 fun _ _ e => e⟩
end

/-- A block of cells. -/
def Th.box (b : Nat) (t : TypeId) (cs : Array Value) : Th where
  In F w := (∀ c, F c ↔ c = b) ∧ Laid w b t cs
  lt h c hc := by rw [(h.1 c).1 hc]; exact h.2.lt
  keeps h hk hs := ⟨h.1, (hk.block _ h.2.lt (hs _ ((h.1 _).2 rfl))).trans h.2⟩
def Th.row {α : Type} (R : Rec α) (v : Value) (l : List α) : Th where
  In F w := (∀ c, F c ↔ v.ownBlock = some c) ∧ Row R 0 w v l
  lt h c hc := (h.2.lt c ((h.1 c).1 hc)).2
  keeps h hk hs := ⟨h.1, hk.row h.2 fun g hg => hs g ((h.1 g).2 hg)⟩
def Th.mp {P : Program} {α β : Type} (M : Mk P α β) (b : Nat) (l : List (α × β)) : Th where
  In F w := (∀ c, F c ↔ c = b) ∧ Mp M w b l
  lt h c hc := by rw [(h.1 c).1 hc]; exact h.2.lt
  keeps h hk hs := ⟨h.1, h.2.same (hk.block _ h.2.lt (hs _ ((h.1 _).2 rfl)))⟩
section
variable {F : Nat → Prop} {w w' : World}
theorem box_put {b : Nat} {t : TypeId} {cs : Array Value} (h : (Th.box b t cs).In F w) (o : Nat) (v : Value) : Bec F w (.box b t (cs.setIfInBounds o v)) (w.setCell ⟨b, o, none⟩ v) :=
  ⟨F, fun _ h => Or.inl h, ⟨h.1, heap_setCell_same w b o _ _ v h.2⟩, (Keeps.set w b o v).mono fun c _ e => (h.1 c).2 e⟩
theorem box_new (w : World) (t : TypeId) (cs : Array Value) : Bec (fun _ => False) w (.box w.heap.size t cs) (w.alloc (.cells cs t)) :=
  bec_false (F := fun c => c = w.heap.size) ⟨fun _ => Iff.rfl, Laid.new _ _ _⟩ (fun c hc => by omega) ((Below.refl _ _).alloc (Nat.le_refl _) _)
theorem row_in {α : Type} {R : Rec α} {B : Nat} {v : Value} {l : List α} (h : Row R B w v l) : (Th.row R v l).In (fun c => v.ownBlock = some c) w := ⟨fun _ => Iff.rfl, h.lower (Nat.zero_le _)⟩
theorem row_new {α : Type} {R : Rec α} {v : Value} {l : List α} (h : Row R w.heap.size w' v l) (hb : Below w.heap.size w w') : Bec (fun _ => False) w (.row R v l) w' :=
  bec_false (row_in h) (fun c hc => (h.lt c hc).1) hb
theorem mp_new {P : Program} {α β : Type} {M : Mk P α β} {l : List (α × β)} {b : Nat} (h : Mp M w' b l) (hbn : w.heap.size ≤ b) (hb : Below w.heap.size w w') : Bec (fun _ => False) w (.mp M b l) w' :=
  bec_false (F := fun c => c = b) ⟨fun _ => Iff.rfl, h⟩ (fun c hc => by omega) hb
theorem mp_turn {P : Program} {α β : Type} {M : Mk P α β} {l l' : List (α × β)} {b : Nat} (h : (Th.mp M b l).In F w) (h' : Mp M w' b l') (hk : w.mapTurned w' b) : Bec F w (.mp M b l') w' :=
  ⟨F, fun _ h => Or.inl h, ⟨h.1, h'⟩, (Keeps.of_grown hk.grown).mono fun c _ e => (h.1 c).2 (by simpa using e.symm)⟩
end
end Go.Proofs.Ytoimmapdkapheaa
/- A region that draws its order: what is loaded is loaded first, where the operations that spoil it wait for it. -/
namespace Go.Proofs.Ytoimmapdkapheaa
set_option maxRecDepth 4000
open Go.RowKit

section
variable {P : Program} {ops : Array Oper} {Q : Exit → Act → World → Prop} {md : Region.Mode} {S : World → Prop} {X : List Nat}

/-- Whatever order is picked from here on; behind every operation but those of X there holds S. -/
def wpAnyX (P : Program) (md : Region.Mode) (ops : Array Oper) (Q : Exit → Act → World → Prop) (S : World → Prop) (X : List Nat) : Nat → Array Bool → Act → World → Prop
  | 0, listed, a, w => Region.ready md ops listed = [] ∧ Q .normal a w
  | fuel + 1, listed, a, w =>
    (Region.ready md ops listed = [] → Q .normal a w) ∧
    ∀ i ∈ Region.ready md ops listed, wpOp P ops Q i (fun a' w' => (i ∉ X → S w') ∧ wpAnyX P md ops Q S X fuel (listed.setIfInBounds i true) a' w') a w
theorem wpAny_of_X : ∀ (fuel : Nat) (listed : Array Bool) (a : Act) (w : World), wpAnyX P md ops Q S X fuel listed a w → wpAny P md ops Q fuel listed a w
  | 0, _, _, _, h => h
  | fuel + 1, _, _, _, h => ⟨h.1, fun i hi => wpOp_mono (fun a' w' h' => wpAny_of_X fuel _ a' w' h'.2) (h.2 i hi)⟩

/-- What has come up came up behind what it waits for. -/
def closedX (md : Region.Mode) (ops : Array Oper) (listed : Array Bool) : Prop := ∀ j o, ops[j]? = some o → listed.getD j false = true → ∀ e ∈ o.after, Region.binds md e = true → listed.getD e.on false = true
def closedB (md : Region.Mode) (ops : Array Oper) (listed : Array Bool) : Bool :=
  (List.range ops.size).all fun j => !listed.getD j false || ((ops[j]?).map (·.after.all fun e => !Region.binds md e || listed.getD e.on false)).getD true
theorem closedB_spec {listed : Array Bool} (h : closedB md ops listed = true) : closedX md ops listed := by
  intro j o ho hj e he hb
  have hlt : j < ops.size := (Array.getElem?_eq_some_iff.1 ho).1
  have h1 := List.all_eq_true.1 h j (List.mem_range.2 hlt)
  rw [ho] at h1
  simp only [Option.map_some, Option.getD_some] at h1
  rw [hj] at h1
  simp only [Bool.not_true, Bool.false_or] at h1
  have h2 := Array.all_eq_true'.1 h1 e he
  rw [hb] at h2
  simpa using h2
theorem getD_set_cases {listed : Array Bool} {i j : Nat} (h : (listed.setIfInBounds i true).getD j false = true) : j = i ∨ listed.getD j false = true := by
  by_cases hij : i = j
  · exact Or.inl hij.symm
  · rw [getD_set_ne false hij] at h
    exact Or.inr h
theorem closedX_step {listed : Array Bool} {i : Nat} (hc : closedX md ops listed) (hi : i ∈ Region.ready md ops listed) : closedX md ops (listed.setIfInBounds i true) := by
  intro j o ho hj e he hb
  apply getD_set_true
  rcases getD_set_cases hj with rfl | h
  · obtain ⟨_, o', ho', hall⟩ := mem_ready.1 hi
    rw [ho] at ho'
    cases ho'
    exact hall e he hb
  · exact hc j o ho h e he hb
/-- k waits for i, if by way of others. -/
def waitsB (md : Region.Mode) (ops : Array Oper) (i : Nat) : Nat → Nat → Bool
  | 0, _ => false
  | f + 1, k => ((ops[k]?).map (·.after.any fun e => Region.binds md e && (e.on == i || waitsB md ops i f e.on))).getD false
theorem waits_listed {listed : Array Bool} {i : Nat} (hc : closedX md ops listed) : ∀ (f k : Nat) (o : Oper), ops[k]? = some o → (∀ e ∈ o.after, Region.binds md e = true → listed.getD e.on false = true) → waitsB md ops i f k = true → listed.getD i false = true
  | 0, _, _, _, _, h => by simp [waitsB] at h
  | f + 1, k, o, ho, hall, h => by
    simp only [waitsB, ho, Option.map_some, Option.getD_some] at h
    obtain ⟨e, he, hb⟩ := Array.any_eq_true'.1 h
    simp only [Bool.and_eq_true, Bool.or_eq_true, beq_iff_eq] at hb
    rcases hb.2 with h2 | h2
    · rw [← h2]
      exact hall e he hb.1
    · have hl := hall e he hb.1
      cases hoe : ops[e.on]? with
      | none => cases f <;> simp [waitsB, hoe] at h2
      | some o2 => exact waits_listed hc f e.on o2 hoe (fun e2 he2 hb2 => hc e.on o2 hoe hl e2 he2 hb2) h2
theorem not_ready {listed : Array Bool} {i k : Nat} (hc : closedX md ops listed) (hi : i ∈ Region.ready md ops listed) (hw : waitsB md ops i ops.size k = true) : k ∉ Region.ready md ops listed := by
  intro hk
  obtain ⟨_, o, ho, hall⟩ := mem_ready.1 hk
  have h := waits_listed hc ops.size k o ho hall hw
  have h0 := (mem_ready.1 hi).1
  rcases Nat.lt_or_ge i listed.size with h' | h'
  · simp [h'] at h h0
    rw [h0] at h
    cases h
  · simp [Array.getElem?_eq_none h'] at h

theorem wpAnyX_first {i : Nat} {oi : Oper} {v : Value} (hi : ops[i]? = some oi) (hsel : ∀ (j : Nat) (o : Oper) cs b, ops[j]? = some o → o.op ≠ .select cs b)
    (hQ : ∀ c a w, Q (.panic c) (a.put oi.dst v) w → Q (.panic c) a w) (hX : ∀ k ∈ X, waitsB md ops i ops.size k = true) :
    ∀ (fuel : Nat) (listed : Array Bool) (a : Act) (w : World), closedX md ops listed →
      (∀ j oj, ops[j]? = some oj → j ≠ i → listed.getD j true = false → (∀ e ∈ oj.after, Region.binds md e = true → e.on ≠ i) → oi.apart ops oj = true) →
      i ∈ Region.ready md ops listed → YieldsIf P ops S oi v a → S w →
      wpAnyX P md ops Q S X fuel (listed.setIfInBounds i true) (a.put oi.dst v) w → wpAnyX P md ops Q S X (fuel + 1) listed a w := by
  intro fuel
  induction fuel with
  | zero =>
    intro listed a w hc _ hr hy hS H
    refine ⟨fun h => (by rw [h] at hr; cases hr), fun j hj => ?_⟩
    by_cases hji : j = i
    · subst hji; exact hy.wpOp hi hS ⟨fun _ => hS, H⟩
    · have := ready_mono hj hji
      rw [H.1] at this
      cases this
  | succ fuel ih =>
    intro listed a w hc hfree hr hy hS H
    refine ⟨fun h => (by rw [h] at hr; cases hr), fun j hj => ?_⟩
    by_cases hji : j = i
    · subst hji; exact hy.wpOp hi hS ⟨fun _ => hS, H⟩
    · have h1 := H.2 j (ready_mono hj hji)
      have hjX : j ∉ X := fun hjx => not_ready hc hr (hX j hjx) hj
      obtain ⟨hjun, oj, hoj, hall⟩ := mem_ready.1 hj
      have hnot : ∀ e ∈ oj.after, Region.binds md e = true → e.on ≠ i := fun e he hb heq => by
        have h1 := hall e he hb
        have h0 := (mem_ready.1 hr).1
        rw [heq] at h1
        rcases Nat.lt_or_ge i listed.size with h' | h'
        · simp [h'] at h0 h1; rw [h0] at h1; cases h1
        · simp [Array.getElem?_eq_none h'] at h1
      have h2 := wpOp_putIf hoj (hfree j oj hoj hji hjun hnot) (fun cs b => hsel i oi cs b hi) (fun cs b => hsel j oj cs b hoj) hQ hy h1
      have hfree' : ∀ k ok, ops[k]? = some ok → k ≠ i → (listed.setIfInBounds j true).getD k true = false →
          (∀ e ∈ ok.after, Region.binds md e = true → e.on ≠ i) → oi.apart ops ok = true := fun k ok hk hki hun hno => by
        refine hfree k ok hk hki ?_ hno
        by_cases hjk : j = k
        · subst hjk; exact hjun
        · rw [getD_set_ne true hjk] at hun; exact hun
      refine wpOp_mono (fun a' w' h3 => ⟨h3.2.1, ih (listed.setIfInBounds j true) a' w' (closedX_step hc hj) hfree' (ready_mono hr (Ne.symm hji)) h3.1 (h3.2.1 hjX) ?_⟩) h2
      rw [Array.setIfInBounds_comm _ _ hji]
      exact h3.2.2

theorem wpAnyX_take {i : Nat} {oi : Oper} {v : Value} {fuel : Nat} {listed : Array Bool} {a : Act} {w : World} (hi : ops[i]? = some oi)
    (hs : Region.noSelect ops = true) (hf : Region.free md ops listed i = true) (hr : (Region.ready md ops listed).contains i = true) (hc : closedB md ops listed = true) (hX : (X.all fun k => waitsB md ops i ops.size k) = true)
    (hQ : ∀ c a w, Q (.panic c) (a.put oi.dst v) w → Q (.panic c) a w) (hy : YieldsIf P ops S oi v a) (hS : S w)
    (h : wpAnyX P md ops Q S X fuel (listed.setIfInBounds i true) (a.put oi.dst v) w) : wpAnyX P md ops Q S X (fuel + 1) listed a w :=
  wpAnyX_first hi (Region.noSelect_spec hs) hQ (fun k hk => List.all_eq_true.1 hX k hk) fuel listed a w (closedB_spec hc) (Region.free_spec hi hf) (by simpa using hr) hy hS h
/-- The one that may come up comes up; behind it there holds S. -/
theorem wpAnyX_one {i : Nat} {o : Oper} {fuel : Nat} {listed : Array Bool} {a : Act} {w : World} (hr : Region.ready md ops listed = [i]) (ho : ops[i]? = some o)
    (h : ∀ K' : Act → World → Prop, Shut (∀ a w, S w → wpAnyX P md ops Q S X fuel (listed.setIfInBounds i true) a w → K' a w) → if Region.wanted o (yielded ops a.tmps) = true then Oper.wp P o a w K' Q else K' (a.put o.dst undef) w) : wpAnyX P md ops Q S X (fuel + 1) listed a w := by
  refine ⟨fun h0 => (by rw [hr] at h0; cases h0), fun j hj => ?_⟩
  rw [hr] at hj
  obtain rfl : j = i := by simpa using hj
  exact wpOp_step ho fun K' hK => h K' (fun a w hS hW => hK a w ⟨fun _ => hS, hW⟩)
/-- One of two that may come up comes up; behind it there holds S. -/
theorem wpAnyX_two {i j : Nat} {oi oj : Oper} {fuel : Nat} {listed : Array Bool} {a : Act} {w : World} (hr : Region.ready md ops listed = [i, j]) (hoi : ops[i]? = some oi) (hoj : ops[j]? = some oj)
    (h1 : ∀ K' : Act → World → Prop, Shut (∀ a w, S w → wpAnyX P md ops Q S X fuel (listed.setIfInBounds i true) a w → K' a w) → if Region.wanted oi (yielded ops a.tmps) = true then Oper.wp P oi a w K' Q else K' (a.put oi.dst undef) w)
    (h2 : ∀ K' : Act → World → Prop, Shut (∀ a w, S w → wpAnyX P md ops Q S X fuel (listed.setIfInBounds j true) a w → K' a w) → if Region.wanted oj (yielded ops a.tmps) = true then Oper.wp P oj a w K' Q else K' (a.put oj.dst undef) w) : wpAnyX P md ops Q S X (fuel + 1) listed a w := by
  refine ⟨fun h0 => (by rw [hr] at h0; cases h0), fun k hk => ?_⟩
  rw [hr] at hk
  rcases List.mem_cons.1 hk with rfl | hk
  · exact wpOp_step hoi fun K' hK => h1 K' (fun a w hS hW => hK a w ⟨fun _ => hS, hW⟩)
  · obtain rfl : k = j := by simpa using hk
    exact wpOp_step hoj fun K' hK => h2 K' (fun a w hS hW => hK a w ⟨fun _ => hS, hW⟩)
/-- .. one of X. -/
theorem wpAnyX_last {i : Nat} {o : Oper} {fuel : Nat} {listed : Array Bool} {a : Act} {w : World} (hr : Region.ready md ops listed = [i]) (ho : ops[i]? = some o) (hX : X.contains i = true)
    (h : ∀ K' : Act → World → Prop, Shut (∀ a w, wpAnyX P md ops Q S X fuel (listed.setIfInBounds i true) a w → K' a w) → if Region.wanted o (yielded ops a.tmps) = true then Oper.wp P o a w K' Q else K' (a.put o.dst undef) w) : wpAnyX P md ops Q S X (fuel + 1) listed a w := by
  refine ⟨fun h0 => (by rw [hr] at h0; cases h0), fun j hj => ?_⟩
  rw [hr] at hj
  obtain rfl : j = i := by simpa using hj
  exact wpOp_step ho fun K' hK => h K' (fun a w hW => hK a w ⟨fun hn => absurd (by simpa using hX) hn, hW⟩)
theorem wpAnyX_done {listed : Array Bool} {a : Act} {w : World} (hr : Region.ready md ops listed = []) (h : Q .normal a w) : ∀ fuel, wpAnyX P md ops Q S X fuel listed a w
  | 0 => ⟨hr, h⟩
  | _ + 1 => ⟨fun _ => h, by rw [hr]; simp⟩
theorem wp_region_X {id : Nat} {a : Act} {w : World} (S : World → Prop) (X : List Nat) (hm : P.follows .mixedOrders = true)
    (h : wpAnyX P .any ops Q S X ops.size (Array.replicate ops.size false) a w.drew) : (Code.region id ops true).wp P Q a w := wp_region_any hm (wpAny_of_X _ _ _ _ h)
end
end Go.Proofs.Ytoimmapdkapheaa
/- Rows of records: copied within and between rows, cleared, grown by zeros. No word of the program. -/
namespace Go.Proofs.Ytoimmapdkapheaa
set_option maxRecDepth 4000
open Go.RowKit

section
variable {P : Program} {α : Type} {R : Rec α} {s : TypeId}

/-- 'copy(d, x)' of n records, whatever overlaps. -/
theorem run_copyR (k : Kin P R s) (w : World) (ty : TypeId) (b o dLen dCap : Nat) (a : Addr) (sLen sCap n : Nat) (cs : List Value) (hn : n = Nat.min sLen dLen) (hl : cs.length = n * R.n)
    (hsrc : ∀ j v, cs[j]? = some v → w.cell? (a.add j) = some v) (hc : ∀ j, j < cs.length → (w.cell? ⟨b, o + j, none⟩).isSome = true) (hf : ∀ j, j < cs.length → w.frozen? ⟨b, o + j, none⟩ = false) (h1 : ∀ v ∈ cs, v.oneCell' = true) :
    (Builtin.copy_ #[s, s] ty #[.slice (some ⟨b, o, none⟩) dLen dCap, .slice (some a) sLen sCap]).run P w = .ok (goInt n) (w.setCells b o cs) := by
  obtain ⟨i, z, hi, _, hs, _⟩ := k.inf
  have hld := run_loadCells_list (P := P) w a cs hsrc
  rw [hl] at hld
  have hst := run_storeCells_cells (P := P) b o cs 0 w (by simpa using hc) (by simpa using hf) h1
  simp [Builtin.copy_, run_underlying k.und, Builtin.lenOf, Builtin.firstCells, sizeOf, typeInfo, hi, hs, ← hn, hld, hst]
theorem run_copy0 (k : Kin P R s) (w : World) (ty : TypeId) (a : Addr) (dLen dCap : Nat) : (Builtin.copy_ #[s, s] ty #[.slice (some a) dLen dCap, .slice none 0 0]).run P w = .ok (goInt 0) w := by
  obtain ⟨i, z, hi, _⟩ := k.inf
  exact run_copy_nil P w s s ty R.t a dLen dCap k.und (by rw [hi]; rfl)
/-- .. at 'Oper.wp', where its run is known. -/
theorem wp_copyR (w : World) {o : Oper} {a : Act} {K : Act → World → Prop} {Q : Exit → Act → World → Prop} (d x : Operand) (ho : o.op = .call { callee := .builtin .copy, args := #[d, x], argTypes := #[s, s] }) (v u : Value) (hd : a.eval d = v) (hx : a.eval x = u) {v' : Value} {w' : World}
    (hr : ∀ ty, (Builtin.copy_ #[s, s] ty #[v, u]).run P w = .ok v' w') (h : K (a.put o.dst v') w') : Oper.wp P o a w K Q := by
  unfold Oper.wp execOp
  simp only [ho, resolve, invoke, builtin, Sem.run_bind, Sem.run_pure, Result.andThen_ok, List.map_toArray, List.map_cons, List.map_nil, hd, hx, hr]
  exact h
theorem list_copyR (w : World) {ops : Array Oper} {rest : List Oper} {o : Oper} {a : Act} {Q : Exit → Act → World → Prop} (hg : o.guard = none) (d x : Operand) (ho : o.op = .call { callee := .builtin .copy, args := #[d, x], argTypes := #[s, s] }) (v u : Value) (hd : a.eval d = v) (hx : a.eval x = u) {v' : Value} {w' : World}
    (hr : ∀ ty, (Builtin.copy_ #[s, s] ty #[v, u]).run P w = .ok v' w') (h : wpList P ops Q rest (a.put o.dst v') w') : wpList P ops Q (o :: rest) a w :=
  wpList_plain hg fun _ hK => wp_copyR w d x ho v u hd hx hr (hK _ _ h)
theorem step_copyR {ops : Array Oper} {o : Oper} {a : Act} {w : World} {K : Act → World → Prop} {Q : Exit → Act → World → Prop} {E : Prop} (hg : o.guard = none) (d x : Operand) (ho : o.op = .call { callee := .builtin .copy, args := #[d, x], argTypes := #[s, s] }) (v u : Value) (hd : a.eval d = v) (hx : a.eval x = u) {v' : Value} {w' : World}
    (hr : ∀ ty, (Builtin.copy_ #[s, s] ty #[v, u]).run P w = .ok v' w') (hK : K (a.put o.dst v') w') : if Region.wanted o (yielded ops a.tmps) = true then Oper.wp P o a w K Q else E := by
  rw [if_pos (show Region.wanted o (yielded ops a.tmps) = true by simp [Region.wanted, hg])]
  exact wp_copyR w d x ho v u hd hx hr hK

/-- 'clear(s)' of n records: their cells are written, with whatever it be. -/
theorem run_clearR (k : Kin P R s) (hone : ∀ i z, P.info? R.t = some i → i.zero = some z → ∀ u ∈ z.cells, u.oneCell' = true) (w : World) (b o n c : Nat) (hc : ∀ j, j < n * R.n → (w.cell? ⟨b, o + j, none⟩).isSome = true) (hf : ∀ j, w.frozen? ⟨b, j, none⟩ = false) :
    ∃ vs : List Value, vs.length = n * R.n ∧ ∀ ty, (Builtin.clear_ #[s] ty #[.slice (some ⟨b, o, none⟩) n c]).run P w = .ok (.tuple #[]) (w.setCells b o vs) := by
  obtain ⟨i, z, hi, hz0, hz1, hz2, hzs⟩ := k.inf
  cases n with
  | zero =>
    refine ⟨[], by simp, fun ty => ?_⟩
    simp [Builtin.clear_, run_underlying k.und, World.setCells]
  | succ m =>
    have hl : (Builtin.zeroCells z.cells (m + 1)).toList.length = (m + 1) * R.n := by simp [Builtin.zeroCells, hzs]
    have h1 : ∀ u ∈ (Builtin.zeroCells z.cells (m + 1)).toList, u.oneCell' = true := by
      intro u hu
      simp only [Builtin.zeroCells, Array.toList_map, List.mem_map] at hu
      obtain ⟨j, _, rfl⟩ := hu
      have hj : j % z.cells.size < z.cells.size := Nat.mod_lt _ (by rw [hzs]; exact R.npos)
      apply hone i z hi hz0
      rw [Array.getElem!_eq_getD, Array.getD_eq_getD_getElem?, Array.getElem?_eq_getElem hj, Option.getD_some]
      exact Array.getElem_mem hj
    have hst := run_storeCells_cells (P := P) b o (Builtin.zeroCells z.cells (m + 1)).toList 0 w (by rw [hl]; simpa using hc) (by intro j _; exact hf _) h1
    simp only [Nat.add_zero] at hst
    refine ⟨_, hl, fun ty => ?_⟩
    simp [Builtin.clear_, run_underlying k.und, zeroValue, typeInfo, hi, hz0, hst]

/-- 'append(s[:i], make(S, k)...)' of a row with no room: a new row of what stood there, and whatever it be behind. -/
theorem run_zerosR (k : Kin P R s) (tn : TypeId) (hn : P.underlying tn = some (.int .i64)) (w : World) (g i c m : Nat) (l : List α) (hl : l.length = i) (hm : 0 < m) (hc : c < i + m) (hb : (i + m) * R.bytes ≤ 140737488355328) (hlen : i + m ≤ maxLen)
    (hcell : ∀ (j : Nat) (u : Value), (R.all l)[j]? = some u → w.cell? ⟨g, j, none⟩ = some u) :
    ∃ (G : Nat) (cur : Array Value), i + m ≤ G ∧ G ≤ maxLen ∧ cur.size = G * R.n ∧ (∀ (j : Nat) (u : Value), (R.all l)[j]? = some u → cur[j]? = some u) ∧
      ∀ ty, (Builtin.append_ #[s, tn] ty #[.slice (some ⟨g, 0, none⟩) i c, .int .i64 m]).run P w = .ok (.slice (some ⟨w.heap.size, 0, none⟩) (i + m) G) (w.drew.alloc (.cells cur R.t (0, 0))) := by
  obtain ⟨i0, z, hi, hz0, hz1, hz2, hzs⟩ := k.inf
  have hold : (Builtin.firstCells i0.size i (.slice (some ⟨g, 0, none⟩) i c)).run P w.drew = .ok (R.all l).toArray w.drew :=
    run_firstCells_some w.drew i0.size i ⟨g, 0, none⟩ i c (R.all l) (by rw [R.all_len, hl, hz1]) (fun j v hj => by
      rw [Addr.add_lit, Nat.zero_add]
      exact hcell j v hj)
  refine ⟨grownCap w (i + m) c R.t, (R.all l).toArray ++ Builtin.zeroCells z.cells m ++ Builtin.zeroCells z.cells (grownCap w (i + m) c R.t - (i + m)), grownCap_ge w _ _ _, grownCap_le_maxLen w (i + m) c R.t hlen, ?_, ?_, fun ty => ?_⟩
  · have := grownCap_ge w (i + m) c R.t
    simp only [Array.size_append, List.size_toArray, R.all_len, hl, Builtin.zeroCells, Array.size_map, Array.size_range, hzs]
    rw [← Nat.add_mul, ← Nat.add_mul]
    congr 1
    omega
  · intro j u hj
    have hlt := (List.getElem?_eq_some_iff.1 hj).1
    rw [Array.append_assoc, Array.getElem?_append_left (by simpa using hlt)]
    simpa using hj
  · have hb' : m * R.bytes ≤ 281474976710656 := by
      have : m * R.bytes ≤ (i + m) * R.bytes := Nat.mul_le_mul_right _ (by omega)
      omega
    exact Lib.run_append_grow_zeros w s tn ty R.t i0 z .i64 .i64 k.und hn hi hz0 (some ⟨g, 0, none⟩) i c (R.all l) hold m hm (by rw [hz1]; exact R.npos) hc (by unfold maxLen at hlen; omega) (by rw [hz2]; exact hb') (by rw [hz2]; exact growslice_fits hc hb)
end

/-- Records written into a block from the i-th place on. -/
theorem wrs_at {α : Type} (R : Rec α) (cur : Array Value) (i c : Nat) (M : List α) (hs : cur.size = c * R.n) (hi : i + M.length ≤ c) (k j : Nat) (hj : j < R.n) :
    (wrs cur (i * R.n) (R.all M))[k * R.n + j]? = if i ≤ k ∧ k < i + M.length then (R.cells (M.getD (k - i) R.zero))[j]? else cur[k * R.n + j]? := by
  have hall := R.all_len M
  have hfit : (i + M.length) * R.n ≤ c * R.n := Nat.mul_le_mul_right _ hi
  rw [Nat.add_mul] at hfit
  by_cases h : i ≤ k ∧ k < i + M.length
  · rw [if_pos h]
    obtain ⟨d, rfl⟩ : ∃ d, k = i + d := ⟨k - i, by omega⟩
    have hd : (d + 1) * R.n ≤ M.length * R.n := Nat.mul_le_mul_right _ (by omega)
    rw [Nat.add_mul] at hd
    rw [Nat.add_mul, Nat.add_assoc, wrs_in (R.all M) cur (i * R.n) (d * R.n + j) (by rw [hall]; omega) (by rw [hall, hs]; omega), R.all_at M d j (by omega) hj, show i + d - i = d by omega]
  · rw [if_neg h]
    apply wrs_out
    rw [hall]
    rcases Nat.lt_or_ge k i with c1 | c1
    · left
      have : (k + 1) * R.n ≤ i * R.n := Nat.mul_le_mul_right _ c1
      rw [Nat.add_mul] at this
      omega
    · right
      have : (i + M.length) * R.n ≤ k * R.n := Nat.mul_le_mul_right _ (by omega)
      rw [Nat.add_mul] at this
      omega
end Go.Proofs.Ytoimmapdkapheaa
/- Rows of records: a part of one is replaced. No word of the program. -/
namespace Go.Proofs.Ytoimmapdkapheaa
set_option maxRecDepth 4000
open Go.RowKit

theorem getD_repl {α : Type} (z : α) (l M : List α) (i j k : Nat) (hi : i ≤ l.length) : (l.take i ++ (M ++ l.drop j)).getD k z = if k < i then l.getD k z else if k < i + M.length then M.getD (k - i) z else l.getD (j + (k - (i + M.length))) z := by
  simp only [List.getD_eq_getElem?_getD]
  by_cases h1 : k < i
  · rw [if_pos h1, List.getElem?_append_left (by simp; omega), List.getElem?_take_of_lt h1]
  · rw [if_neg h1, List.getElem?_append_right (by simp; omega), List.length_take, Nat.min_eq_left hi]
    by_cases h2 : k < i + M.length
    · rw [if_pos h2, List.getElem?_append_left (by omega)]
    · rw [if_neg h2, List.getElem?_append_right (by omega), List.getElem?_drop, show k - i - M.length = k - (i + M.length) by omega]
theorem len_repl {α : Type} (l M : List α) (i j : Nat) (hi : i ≤ l.length) : (l.take i ++ (M ++ l.drop j)).length = i + M.length + (l.length - j) := by
  simp only [List.length_append, List.length_take, List.length_drop]
  omega
section
variable {α : Type} (R : Rec α)
theorem getD_drop (l : List α) (j k : Nat) : (l.drop j).getD k R.zero = l.getD (j + k) R.zero := by simp only [List.getD_eq_getElem?_getD, List.getElem?_drop]
/-- The tail first, then what is new. -/
theorem repl_cells (cur : Array Value) (c i j : Nat) (l M : List α) (hs : cur.size = c * R.n) (hfit : i + M.length + (l.length - j) ≤ c) (hi : i ≤ l.length)
    (hcur : ∀ k, k < i → ∀ t, t < R.n → cur[k * R.n + t]? = (R.cells (l.getD k R.zero))[t]?) :
    ∀ k, k < (l.take i ++ (M ++ l.drop j)).length → ∀ t, t < R.n → (wrs (wrs cur ((i + M.length) * R.n) (R.all (l.drop j))) (i * R.n) (R.all M))[k * R.n + t]? = (R.cells ((l.take i ++ (M ++ l.drop j)).getD k R.zero))[t]? := by
  intro k hk t ht
  rw [len_repl l M i j hi] at hk
  rw [getD_repl R.zero l M i j k hi, wrs_at R _ i c M (by rw [wrs_size]; exact hs) (by omega) k t ht]
  by_cases h1 : k < i
  · rw [if_neg (by omega), if_pos h1, wrs_at R _ _ c _ hs (by simp; omega) k t ht, if_neg (by omega)]
    exact hcur k h1 t ht
  · rw [if_neg h1]
    by_cases h2 : k < i + M.length
    · rw [if_pos ⟨by omega, h2⟩, if_pos h2]
    · rw [if_neg (by omega), if_neg h2, wrs_at R _ _ c _ hs (by simp; omega) k t ht, if_pos (by simp; omega), getD_drop]
/-- What is new first, then the tail. -/
theorem repl_cells' (cur : Array Value) (c i j : Nat) (l M : List α) (hs : cur.size = c * R.n) (hfit : i + M.length + (l.length - j) ≤ c) (hi : i ≤ l.length)
    (hcur : ∀ k, k < i → ∀ t, t < R.n → cur[k * R.n + t]? = (R.cells (l.getD k R.zero))[t]?) :
    ∀ k, k < (l.take i ++ (M ++ l.drop j)).length → ∀ t, t < R.n → (wrs (wrs cur (i * R.n) (R.all M)) ((i + M.length) * R.n) (R.all (l.drop j)))[k * R.n + t]? = (R.cells ((l.take i ++ (M ++ l.drop j)).getD k R.zero))[t]? := by
  intro k hk t ht
  rw [len_repl l M i j hi] at hk
  rw [getD_repl R.zero l M i j k hi, wrs_at R _ _ c (l.drop j) (by rw [wrs_size]; exact hs) (by simp; omega) k t ht]
  by_cases h1 : k < i
  · rw [if_neg (by omega), if_pos h1, wrs_at R _ _ c _ hs (by omega) k t ht, if_neg (by omega)]
    exact hcur k h1 t ht
  · rw [if_neg h1]
    by_cases h2 : k < i + M.length
    · rw [if_neg (by omega), if_pos h2, wrs_at R _ _ c _ hs (by omega) k t ht, if_pos ⟨by omega, h2⟩]
    · rw [if_pos (by simp; omega), if_neg h2, getD_drop]
end
section
variable {α : Type} {R : Rec α} {B : Nat} {w : World} {l : List α}
theorem keeps_sets2 (w : World) (g o o' : Nat) (vs vs' : List Value) : Keeps w ((w.setCells g o vs).setCells g o' vs') (fun b => b = g) := (Keeps.sets vs w g o).trans (Keeps.sets vs' _ g o') fun _ _ h => h
/-- A row's part from i up to j is M, the tail being moved first. -/
theorem Row.repl {g n c : Nat} (h : Row R B w (.slice (some ⟨g, 0, none⟩) n c) l) (i j : Nat) (M : List α) (hi : i ≤ l.length) (hfit : i + M.length + (l.length - j) ≤ c) {nn : Nat} (hnn : nn = i + M.length + (l.length - j)) :
    Row R B ((w.setCells g ((i + M.length) * R.n) (R.all (l.drop j))).setCells g (i * R.n) (R.all M)) (.slice (some ⟨g, 0, none⟩) nn c) (l.take i ++ (M ++ l.drop j)) := by
  obtain ⟨rfl, hB, hlt, cur, hg, hlc, hcm, hs, hc⟩ := h.cur
  have hl := len_repl l M i j hi
  have := Row.of_cells (R := R) (B := B) (l' := l.take i ++ (M ++ l.drop j)) (c := c) hB (heap_sets (R.all M) _ g (i * R.n) _ R.t (heap_sets (R.all (l.drop j)) w g ((i + M.length) * R.n) cur R.t hg)) (by omega) hcm (by rw [wrs_size, wrs_size]; exact hs) (repl_cells R cur c i j l M hs hfit hi fun k hk => hc k (by omega))
  rwa [hl, ← hnn] at this
/-- .. the tail being moved last. -/
theorem Row.repl' {g n c : Nat} (h : Row R B w (.slice (some ⟨g, 0, none⟩) n c) l) (i j : Nat) (M : List α) (hi : i ≤ l.length) (hfit : i + M.length + (l.length - j) ≤ c) {nn : Nat} (hnn : nn = i + M.length + (l.length - j)) :
    Row R B ((w.setCells g (i * R.n) (R.all M)).setCells g ((i + M.length) * R.n) (R.all (l.drop j))) (.slice (some ⟨g, 0, none⟩) nn c) (l.take i ++ (M ++ l.drop j)) := by
  obtain ⟨rfl, hB, hlt, cur, hg, hlc, hcm, hs, hc⟩ := h.cur
  have hl := len_repl l M i j hi
  have := Row.of_cells (R := R) (B := B) (l' := l.take i ++ (M ++ l.drop j)) (c := c) hB (heap_sets (R.all (l.drop j)) _ g ((i + M.length) * R.n) _ R.t (heap_sets (R.all M) w g (i * R.n) cur R.t hg)) (by omega) hcm (by rw [wrs_size, wrs_size]; exact hs) (repl_cells' R cur c i j l M hs hfit hi fun k hk => hc k (by omega))
  rwa [hl, ← hnn] at this
/-- A new row of the same. -/
theorem Row.fresh {g c j : Nat} {cur : Array Value} (hB : B ≤ g) (hg : w.heap[g]? = some (.cells cur R.t (0, 0))) (hcm : c ≤ maxLen) (hs : cur.size = c * R.n) (i : Nat) (M : List α) (hi : i ≤ l.length) (hfit : i + M.length + (l.length - j) ≤ c)
    (hc : ∀ (t : Nat) (u : Value), (R.all (l.take i))[t]? = some u → cur[t]? = some u) {nn : Nat} (hnn : nn = i + M.length + (l.length - j)) :
    Row R B ((w.setCells g (i * R.n) (R.all M)).setCells g ((i + M.length) * R.n) (R.all (l.drop j))) (.slice (some ⟨g, 0, none⟩) nn c) (l.take i ++ (M ++ l.drop j)) := by
  have hl := len_repl l M i j hi
  have := Row.of_cells (R := R) (B := B) (l' := l.take i ++ (M ++ l.drop j)) (c := c) hB (heap_sets (R.all (l.drop j)) _ g ((i + M.length) * R.n) _ R.t (heap_sets (R.all M) w g (i * R.n) cur R.t hg)) (by omega) hcm (by rw [wrs_size, wrs_size]; exact hs) (repl_cells' R cur c i j l M hs hfit hi fun k hk t ht => by
    have e := R.all_at (l.take i) k t (by simp; omega) ht
    have e2 : (l.take i).getD k R.zero = l.getD k R.zero := by simp only [List.getD_eq_getElem?_getD]; rw [List.getElem?_take_of_lt hk]
    rw [e2] at e
    obtain ⟨u, hu⟩ := R.cell_some (l.getD k R.zero) ht
    rw [hu] at e ⊢
    exact hc _ u e)
  rwa [hl, ← hnn] at this
/-- What is written behind its end. -/
theorem Row.tail {g n c : Nat} (h : Row R B w (.slice (some ⟨g, 0, none⟩) n c) l) (o : Nat) (vs : List Value) (ho : l.length * R.n ≤ o) : Row R B (w.setCells g o vs) (.slice (some ⟨g, 0, none⟩) n c) l := by
  obtain ⟨rfl, hB, hlt, cur, hg, hlc, hcm, hs, hc⟩ := h.cur
  refine Row.of_cells (R := R) (B := B) (l' := l) (c := c) hB (heap_sets vs w g o cur R.t hg) hlc hcm (by rw [wrs_size]; exact hs) fun k hk j hj => ?_
  have : (k + 1) * R.n ≤ l.length * R.n := Nat.mul_le_mul_right _ hk
  rw [Nat.add_mul] at this
  rw [wrs_out _ _ _ _ (Or.inl (by omega))]
  exact hc k hk j hj
/-- Its cells, the spare ones too. -/
theorem Row.spare {g n c : Nat} (h : Row R B w (.slice (some ⟨g, 0, none⟩) n c) l) (j : Nat) (hj : j < c * R.n) : (w.cell? ⟨g, j, none⟩).isSome = true ∧ w.frozen? ⟨g, j, none⟩ = false := by
  obtain ⟨rfl, hB, hlt, cur, hg, hlc, hcm, hs, hc⟩ := h.cur
  refine ⟨?_, frozen_of_row w g _ cur _ hg⟩
  rw [cell_of_row w g _ cur _ _ hg, Array.getElem?_eq_getElem (by omega)]
  rfl
theorem Row.news {g n c : Nat} (h : Row R B w (.slice (some ⟨g, 0, none⟩) n c) l) (m : Nat) : ∀ (j : Nat) (u : Value), (R.all (l.drop m))[j]? = some u → w.cell? ⟨g, m * R.n + j, none⟩ = some u := by
  intro j u hj
  have hjl : j < (l.drop m).length * R.n := by
    have := (List.getElem?_eq_some_iff.1 hj).1
    rwa [R.all_len] at this
  obtain ⟨h1, h2, h3⟩ := R.div_lt hjl
  rw [List.length_drop] at h1
  obtain ⟨rfl, hB, hlt, cur, hg, hlc, hcm, hs, hc⟩ := h.cur
  rw [h3, R.all_at _ _ _ (by rw [List.length_drop]; exact h1) h2, getD_drop] at hj
  have := hc (m + j / R.n) (Nat.lt_sub_iff_add_lt'.1 h1) (j % R.n) h2
  rw [cell_of_row w g _ cur _ _ hg, ← hj, ← this, Nat.add_mul, Nat.add_assoc, ← h3]
theorem Row.shape {g n c : Nat} (h : Row R B w (.slice (some ⟨g, 0, none⟩) n c) l) (hl : 0 < l.length) : ∃ k, w.shape? g = some (R.t, k + 1) := by
  obtain ⟨rfl, hB, hlt, cur, hg, hlc, hcm, hs, hc⟩ := h.cur
  have : 1 * R.n ≤ c * R.n := Nat.mul_le_mul_right _ (by omega)
  have hn := R.npos
  refine ⟨cur.size - 1, ?_⟩
  unfold World.shape?
  rw [hg]
  simp
  omega
theorem blk_spare {w : World} {g : Nat} {cur : Array Value} {t : TypeId} (hg : w.heap[g]? = some (.cells cur t (0, 0))) {j : Nat} (hj : j < cur.size) : (w.cell? ⟨g, j, none⟩).isSome = true ∧ w.frozen? ⟨g, j, none⟩ = false := by
  refine ⟨?_, frozen_of_row w g _ cur _ hg⟩
  rw [cell_of_row w g _ cur _ _ hg, Array.getElem?_eq_getElem hj]
  rfl
/-- 'copy(d, x)', the records of x being X. -/
theorem copy_row {P : Program} {s : TypeId} (k : Kin P R s) {W : World} {b o dLen dc q p sLen sc : Nat} (X : List α) (hn : X.length = Nat.min sLen dLen) (hd : ∀ j, j < X.length * R.n → (W.cell? ⟨b, o + j, none⟩).isSome = true ∧ W.frozen? ⟨b, o + j, none⟩ = false)
    (hs : ∀ (j : Nat) (u : Value), (R.all X)[j]? = some u → W.cell? ⟨q, p + j, none⟩ = some u) (ty : TypeId) :
    (Builtin.copy_ #[s, s] ty #[.slice (some ⟨b, o, none⟩) dLen dc, .slice (some ⟨q, p, none⟩) sLen sc]).run P W = .ok (goInt X.length) (W.setCells b o (R.all X)) :=
  run_copyR k W ty b o dLen dc ⟨q, p, none⟩ sLen sc X.length (R.all X) hn (R.all_len X) (fun j u hj => by rw [Addr.add_lit]; exact hs j u hj) (fun j hj => (hd j (by rwa [R.all_len] at hj)).1) (fun j hj => (hd j (by rwa [R.all_len] at hj)).2) (R.all_oneCell X)
end
section
variable {P : Program} {α : Type} {R : Rec α} {s : TypeId}
/-- 'append(xs, ys...)': in place, or a new row. -/
theorem run_app' (k : Kin P R s) (w : World) (ty : TypeId) (B : Nat) (v : Value) (l1 l2 : List α) (h : Row R B w v l1) (ao : Option Addr) (c : Nat) (hs : Seen R w ao c l2) (hm : l1.length + l2.length ≤ maxLen) (hb : (l1.length + l2.length) * R.bytes ≤ 140737488355328) (hB : B ≤ w.heap.size) :
    ∃ v' w', (Builtin.append_ #[s, s] ty #[v, .slice ao l2.length c]).run P w = .ok v' w' ∧ Row R B w' v' (l1 ++ l2) ∧ w.grownBy w' v.ownBlock ∧ (∀ g, v'.ownBlock = some g → v.ownBlock = some g ∨ w.heap.size ≤ g) ∧ (v = .slice none 0 0 → l2 = [] → v' = .slice none 0 0) := by
  obtain ⟨v', w', hr, h1, h2⟩ := run_app k w ty B v l1 l2 h ao c hs hm hb hB
  refine ⟨v', w', hr, h1, h2, ?_⟩
  obtain ⟨i, z, hi, hz0, hz1, hz2, hzs⟩ := k.inf
  cases ao with
  | none =>
    obtain ⟨rfl, rfl⟩ := hs.1 rfl
    have hr2 := run_append_owned_none (P := P) w B s ty R.t i R.n k.und hi _ _ _ h
    have e := hr.symm.trans hr2
    cases e
    exact ⟨fun g hg => Or.inl hg, fun hv _ => hv⟩
  | some ad =>
    rcases h.cases with ⟨rfl, rfl⟩ | ⟨g, c1, cur, rfl, hB1, hlt, hg, hlc, hcm, hs1, ht⟩
    · by_cases h0 : l2.length = 0
      · have hl2 := List.eq_nil_of_length_eq_zero h0
        subst hl2
        have hr2 : (Builtin.append_ #[s, s] ty #[.slice none 0 0, .slice (some ad) 0 c]).run P w = .ok (.slice none 0 0) w := by
          simp [Builtin.append_, run_underlying k.und, sizeOf, typeInfo, hi, Builtin.lenOf, Builtin.firstCells, loadCells, loadCellsFrom]
        have e := hr.symm.trans hr2
        cases e
        exact ⟨fun g hg => Or.inl hg, fun _ _ => rfl⟩
      · have hr2 := run_append_nil (P := P) w s ty R.t i z k.und hi hz0 ad l2.length c (R.all l2) (by rw [hz1]; exact R.all_len l2) (hs.news ad rfl) (by omega) (by unfold maxLen at hm; simp at hm; omega) (by rw [hz2]; simp at hb; omega)
        have e := hr.symm.trans hr2
        cases e
        refine ⟨fun g hg => ?_, fun _ h => absurd (by rw [h]; rfl) h0⟩
        simp [Value.ownBlock] at hg
        omega
    · by_cases hroom : l1.length + l2.length ≤ c1
      · have hr2 := run_append_room (P := P) w s ty R.t i k.und hi g l1.length c1 cur hg ad l2.length c (R.all l2) (by rw [hz1]; exact R.all_len l2) (hs.news ad rfl) (R.all_oneCell l2) hroom (by rw [hz1, R.all_len, hs1, ← Nat.add_mul]; exact Nat.mul_le_mul_right _ hroom)
        have e := hr.symm.trans hr2
        cases e
        exact ⟨fun g hg => Or.inl hg, fun h => by cases h⟩
      · have hr2 := run_append_grow (P := P) w s ty R.t i z k.und hi hz0 ⟨g, 0, none⟩ l1.length c1 (R.all l1) (by rw [hz1]; exact R.all_len l1) (World.ownsRow.cells (g := g) h rfl) ad l2.length c (R.all l2) (by rw [hz1]; exact R.all_len l2) (hs.news ad rfl) (by omega) (by unfold maxLen at hm; omega) (by rw [hz2]; exact growslice_fits (by omega) hb)
        have e := hr.symm.trans hr2
        cases e
        refine ⟨fun g hg => ?_, fun h => by cases h⟩
        simp [Value.ownBlock] at hg
        omega
theorem wp_app' (k : Kin P R s) {o : Oper} {a : Act} {w : World} {K : Act → World → Prop} {Q : Exit → Act → World → Prop} (x y : Operand) (ho : o.op = .call { callee := .builtin .append, args := #[x, y], argTypes := #[s, s] })
    (B : Nat) (v : Value) (l1 l2 : List α) (hv : a.eval x = v) (h : Row R B w v l1) (ao : Option Addr) (n c : Nat) (hy : a.eval y = .slice ao n c) (hn : n = l2.length) (hs : Seen R w ao c l2) (hm : l1.length + l2.length ≤ maxLen) (hb : (l1.length + l2.length) * R.bytes ≤ 140737488355328) (hB : B ≤ w.heap.size)
    (hK : ∀ v' w', Row R B w' v' (l1 ++ l2) → w.grownBy w' v.ownBlock → (∀ g, v'.ownBlock = some g → v.ownBlock = some g ∨ w.heap.size ≤ g) → (v = .slice none 0 0 → l2 = [] → v' = .slice none 0 0) → K (a.put o.dst v') w') : Oper.wp P o a w K Q := by
  subst hn
  obtain ⟨v', w', hr, h2, h3, h4, h5⟩ := run_app' k w o.type B v l1 l2 h ao c hs hm hb hB
  unfold Oper.wp execOp
  simp only [ho, resolve, invoke, builtin, Sem.run_bind, Sem.run_pure, Result.andThen_ok, List.map_toArray, List.map_cons, List.map_nil, hv, hy, hr]
  exact hK v' w' h2 h3 h4 h5
theorem step_app' (k : Kin P R s) {ops : Array Oper} {o : Oper} {a : Act} {w : World} {K : Act → World → Prop} {Q : Exit → Act → World → Prop} {E : Prop} (hg : o.guard = none) (x y : Operand) (ho : o.op = .call { callee := .builtin .append, args := #[x, y], argTypes := #[s, s] })
    (B : Nat) (v : Value) (l1 l2 : List α) (hv : a.eval x = v) (h : Row R B w v l1) (ao : Option Addr) (n c : Nat) (hy : a.eval y = .slice ao n c) (hn : n = l2.length) (hs : Seen R w ao c l2) (hm : l1.length + l2.length ≤ maxLen) (hb : (l1.length + l2.length) * R.bytes ≤ 140737488355328) (hB : B ≤ w.heap.size)
    (hK : ∀ v' w', Row R B w' v' (l1 ++ l2) → w.grownBy w' v.ownBlock → (∀ g, v'.ownBlock = some g → v.ownBlock = some g ∨ w.heap.size ≤ g) → (v = .slice none 0 0 → l2 = [] → v' = .slice none 0 0) → K (a.put o.dst v') w') : if Region.wanted o (yielded ops a.tmps) = true then Oper.wp P o a w K Q else E := by
  rw [if_pos (show Region.wanted o (yielded ops a.tmps) = true by simp [Region.wanted, hg])]
  exact wp_app' k x y ho B v l1 l2 hv h ao n c hy hn hs hm hb hB hK
theorem list_app' (k : Kin P R s) {ops : Array Oper} {rest : List Oper} {o : Oper} {a : Act} {w : World} {Q : Exit → Act → World → Prop} (hg : o.guard = none) (x y : Operand) (ho : o.op = .call { callee := .builtin .append, args := #[x, y], argTypes := #[s, s] })
    (B : Nat) (v : Value) (l1 l2 : List α) (hv : a.eval x = v) (h : Row R B w v l1) (ao : Option Addr) (n c : Nat) (hy : a.eval y = .slice ao n c) (hn : n = l2.length) (hs : Seen R w ao c l2) (hm : l1.length + l2.length ≤ maxLen) (hb : (l1.length + l2.length) * R.bytes ≤ 140737488355328) (hB : B ≤ w.heap.size)
    (hK : ∀ v' w', Row R B w' v' (l1 ++ l2) → w.grownBy w' v.ownBlock → (∀ g, v'.ownBlock = some g → v.ownBlock = some g ∨ w.heap.size ≤ g) → (v = .slice none 0 0 → l2 = [] → v' = .slice none 0 0) → wpList P ops Q rest (a.put o.dst v') w') : wpList P ops Q (o :: rest) a w :=
  wpList_plain hg fun _ hK' => wp_app' k x y ho B v l1 l2 hv h ao n c hy hn hs hm hb hB fun v' w' h2 h3 h4 h5 => hK' _ _ (hK v' w' h2 h3 h4 h5)
/-- 'append(s[:i], xs...)' of nothing. -/
theorem run_app0 (k : Kin P R s) (w : World) (ty : TypeId) (g i c : Nat) (hic : i ≤ c) : (Builtin.append_ #[s, s] ty #[.slice (some ⟨g, 0, none⟩) i c, .slice none 0 0]).run P w = .ok (.slice (some ⟨g, 0, none⟩) i c) w := by
  obtain ⟨i0, z, hi, hz0, hz1, hz2, hzs⟩ := k.inf
  have h0 := run_storeCells_cells (P := P) g (0 + i * i0.size) [] 0 w (by simp) (by simp) (by simp)
  simp only [Nat.add_zero] at h0
  rw [← Addr.add_lit] at h0
  simp [Builtin.append_, run_underlying k.und, sizeOf, typeInfo, hi, Builtin.lenOf, Builtin.firstCells, hic, h0, World.setCells]
/-- The head of a row. -/
theorem Row.head {B : Nat} {w : World} {g n c : Nat} {l : List α} (h : Row R B w (.slice (some ⟨g, 0, none⟩) n c) l) (i : Nat) (hi : i ≤ l.length) : Row R B w (.slice (some ⟨g, 0, none⟩) i c) (l.take i) := by
  obtain ⟨rfl, hB, hlt, cur, hg, hlc, hcm, hs, hc⟩ := h.cur
  have hl : (l.take i).length = i := by simp; omega
  have := Row.of_cells (R := R) (B := B) (l' := l.take i) (c := c) hB hg (by omega) hcm hs (fun k hk j hj => by
    have e2 : (l.take i).getD k R.zero = l.getD k R.zero := by simp only [List.getD_eq_getElem?_getD]; rw [List.getElem?_take_of_lt (by omega)]
    rw [e2]
    exact hc k (by omega) j hj)
  rwa [hl] at this
end
end Go.Proofs.Ytoimmapdkapheaa
/- Maps as lists: what stands where, behind puts and deletes. No word of the program. -/
namespace Go.Proofs.Ytoimmapdkapheaa
set_option maxRecDepth 4000
section
variable {α β : Type} [DecidableEq α]
theorem getL_mem {l : List (α × β)} {a : α} {x : β} (h : getL l a = some x) : (a, x) ∈ l := by
  unfold getL at h
  obtain ⟨p, hp, rfl⟩ := Option.map_eq_some_iff.1 h
  have h1 := List.find?_some hp
  simp at h1
  rw [← h1]
  exact List.mem_of_find?_eq_some hp
theorem getL_none' {l : List (α × β)} {a : α} (h : getL l a = none) : ∀ p ∈ l, p.1 ≠ a := by
  unfold getL at h
  rw [Option.map_eq_none_iff, List.find?_eq_none] at h
  intro p hp e
  exact h p hp (by simp [e])
theorem getL_cons (p : α × β) (l : List (α × β)) (a : α) : getL (p :: l) a = if p.1 = a then some p.2 else getL l a := by
  unfold getL
  rw [List.find?_cons]
  by_cases e : p.1 = a <;> simp [e]
theorem getL_app (l m : List (α × β)) (a : α) : getL (l ++ m) a = (getL l a).or (getL m a) := by
  unfold getL
  rw [List.find?_append]
  cases List.find? (fun p => decide (p.1 = a)) l <;> simp
theorem getL_put : ∀ (l : List (α × β)) (a : α) (x : β) (b : α), getL (putL l a x) b = if b = a then some x else getL l b := by
  intro l a x b
  unfold putL
  split
  · next h =>
    have key : ∀ l : List (α × β), getL (l.map fun p => if p.1 = a then (a, x) else p) b = if b = a then (if l.any (fun p => decide (p.1 = a)) = true then some x else none) else getL l b := by
      intro l
      induction l with
      | nil => simp [getL]
      | cons p r ih =>
        rw [List.map_cons, getL_cons, ih, getL_cons]
        by_cases e1 : p.1 = a
        · by_cases e2 : b = a
          · simp [e1, e2]
          · simp [e1, e2, Ne.symm e2]
        · by_cases e2 : b = a
          · simp only [e1, e2, if_true, if_false, List.any_cons, decide_false, Bool.false_or]
          · simp [e1, e2]
    rw [key]
    simp [h]
  · next h =>
    rw [getL_app, getL_cons]
    have hn : getL l a = none := getL_none fun p hp e => h (List.any_eq_true.2 ⟨p, hp, by simp [e]⟩)
    by_cases e : b = a
    · rw [e, hn]; simp
    · rw [if_neg (Ne.symm e), if_neg e]
      simp [getL]
theorem getL_del (l : List (α × β)) (a b : α) : getL (delL l a) b = if b = a then none else getL l b := by
  induction l with
  | nil => simp [delL, getL]
  | cons p r ih =>
    unfold delL at ih ⊢
    rw [List.filter_cons]
    by_cases e1 : p.1 = a
    · rw [if_neg (by simp [e1]), ih, getL_cons, e1]
      by_cases e2 : b = a
      · rw [if_pos e2, if_pos e2]
      · rw [if_neg e2, if_neg e2, if_neg (Ne.symm e2)]
    · rw [if_pos (by simp [e1]), getL_cons, ih, getL_cons]
      by_cases e2 : b = a
      · rw [if_pos e2, if_pos e2, if_neg (by rw [e2]; exact e1)]
      · rw [if_neg e2, if_neg e2]
theorem mid_ne {α' β' : Type} {l1 l2 : List (α' × β')} {a : α'} {x : β'} (hd : (l1 ++ (a, x) :: l2).Pairwise fun p q => p.1 ≠ q.1) : (∀ p ∈ l1, p.1 ≠ a) ∧ ∀ p ∈ l2, p.1 ≠ a := by
  obtain ⟨h1, h2, h3⟩ := List.pairwise_append.1 hd
  obtain ⟨h4, h5⟩ := List.pairwise_cons.1 h2
  exact ⟨fun p hp => h3 p hp (a, x) (by simp), fun p hp => (h4 p hp).symm⟩
theorem putL_mid {l1 l2 : List (α × β)} {a : α} {x y : β} (hd : (l1 ++ (a, x) :: l2).Pairwise fun p q => p.1 ≠ q.1) : putL (l1 ++ (a, x) :: l2) a y = l1 ++ (a, y) :: l2 := by
  obtain ⟨h1, h2⟩ := mid_ne hd
  unfold putL
  rw [if_pos (by simp)]
  have e : ∀ l : List (α × β), (∀ p ∈ l, p.1 ≠ a) → l.map (fun p => if p.1 = a then (a, y) else p) = l := fun l h => by
    conv => rhs; rw [← List.map_id l]
    exact List.map_congr_left fun p hp => by rw [if_neg (h p hp)]; rfl
  rw [List.map_append, List.map_cons, e l1 h1, e l2 h2, if_pos rfl]
theorem delL_mid {l1 l2 : List (α × β)} {a : α} {x : β} (hd : (l1 ++ (a, x) :: l2).Pairwise fun p q => p.1 ≠ q.1) : delL (l1 ++ (a, x) :: l2) a = l1 ++ l2 := by
  obtain ⟨h1, h2⟩ := mid_ne hd
  unfold delL
  have e : ∀ l : List (α × β), (∀ p ∈ l, p.1 ≠ a) → l.filter (fun p => !decide (p.1 = a)) = l := fun l h => List.filter_eq_self.2 fun p hp => by simpa using h p hp
  rw [List.filter_append, List.filter_cons, e l1 h1, e l2 h2, if_neg (by simp)]
end
/-- No more unlike numbers than there are. -/
theorem few_keys : ∀ (n : Nat) (l : List Int), l.Nodup → (∀ k ∈ l, 1 ≤ k ∧ k ≤ (n : Int)) → l.length ≤ n
  | 0, l, _, h => by
    cases l with
    | nil => exact Nat.le_refl _
    | cons a r => have := h a (by simp); omega
  | n + 1, l, hd, h => by
    by_cases hm : ((n : Int) + 1) ∈ l
    · have h1 := few_keys n (l.erase ((n : Int) + 1)) (hd.erase _) fun k hk => by
        have h2 := h k (List.mem_of_mem_erase hk)
        have h3 : k ≠ (n : Int) + 1 := fun e => by
          rw [e] at hk
          exact (List.Nodup.not_mem_erase hd) hk
        omega
      rw [List.length_erase_of_mem hm] at h1
      omega
    · have h1 := few_keys n l hd fun k hk => by
        have h2 := h k hk
        have h3 : k ≠ (n : Int) + 1 := fun e => hm (e ▸ hk)
        omega
      omega
end Go.Proofs.Ytoimmapdkapheaa
/- The document's world of spaces: how it lies; Find. -/
namespace Go.Proofs.Ytoimmapdkapheaa
set_option maxRecDepth 4000
open Go.RowKit

def spT (x : SpV × Sp) : Th := (Th.row rAPg x.1.vp (pagesA x.2.f)).and (Th.row rW8 x.1.vw (wordsA x.2.wd))
def spTs (T : Sps) : List Th := T.map spT
def heads (T : Sps) : List SpV := T.map (·.1)
def FmX (q : Nat) (v : Value) (T : Sps) : Th := (Th.box q 29 #[v]).and ((Th.row rSp v (heads T)).and (Th.all (spTs T)))
structure FmOk (T : Sps) (A : Wd) : Prop where
  eq : lkT T = A
  ok : A.ok
  nod : nodT T
/-- A world of spaces of the document's. -/
def FmT (q : Nat) (A : Wd) : Th := Th.ex fun d : Value × Sps => Th.when (FmOk d.2 A) (FmX q d.1 d.2)
theorem FmX.box {F : Nat → Prop} {w : World} {q : Nat} {v : Value} {T : Sps} (h : (FmX q v T).In F w) : Laid w q 29 #[v] := by
  obtain ⟨_, _, _, _, h1, _⟩ := h
  exact h1.2
theorem FmX.row {F : Nat → Prop} {w : World} {q : Nat} {v : Value} {T : Sps} (h : (FmX q v T).In F w) : Row rSp 0 w v (heads T) := by
  obtain ⟨_, _, _, _, _, _, _, _, _, h1, _⟩ := h
  exact h1.2
theorem heads_len (T : Sps) : (heads T).length = T.length := by simp [heads]
theorem heads_get (T : Sps) {i : Nat} (hi : i < T.length) : (heads T).getD i SpV.zero = (T.getD i zT).1 := by
  unfold heads
  rw [List.getD_eq_getElem?_getD, List.getD_eq_getElem?_getD, List.getElem?_map, List.getElem?_eq_getElem hi]
  rfl
theorem nod_tail {x : SpV × Sp} {T : Sps} (h : nodT (x :: T)) : nodT T := fun a b ha hb e => by
  have := h (a + 1) (b + 1) (by simpa using ha) (by simpa using hb) (by simpa using e)
  omega
theorem nod_pw : ∀ {T : Sps}, nodT T → (T.map fun x => x.1.n).Nodup
  | [], _ => List.nodup_nil
  | x :: T, h => by
    rw [List.map_cons, List.nodup_cons]
    refine ⟨fun hm => ?_, nod_pw (nod_tail h)⟩
    obtain ⟨y, hy, e⟩ := List.mem_map.1 hm
    obtain ⟨i, hi, rfl⟩ := List.mem_iff_getElem.1 hy
    have := h 0 (i + 1) (by simp) (by simpa using hi) (by simp [hi, e])
    omega
theorem lk_mem : ∀ {T : Sps} {n : Int} {s : Sp}, lkT T n = some s → ∃ i, i < T.length ∧ (T.getD i zT).1.n = n ∧ (T.getD i zT).2 = s
  | [], n, s, h => by cases h
  | x :: T, n, s, h => by
    rw [lkT] at h
    by_cases c : x.1.n = n
    · rw [if_pos c] at h
      cases h
      exact ⟨0, by simp, by simpa using c, by simp⟩
    · rw [if_neg c] at h
      obtain ⟨i, h1, h2, h3⟩ := lk_mem h
      exact ⟨i + 1, by simpa using h1, by simpa using h2, by simpa using h3⟩
theorem FmOk.few {T : Sps} {A : Wd} (h : FmOk T A) : T.length ≤ 255 := by
  have := few_keys 255 (T.map fun x => x.1.n) (nod_pw h.nod) fun k hk => by
    obtain ⟨y, hy, rfl⟩ := List.mem_map.1 hk
    obtain ⟨i, hi, rfl⟩ := List.mem_iff_getElem.1 hy
    have e := lk_at T h.nod i hi
    rw [h.eq] at e
    have := (h.ok _ _ e).1
    simpa [okN, hi] using this
  simpa using this
section
variable {F : Nat → Prop} {w : World} {q : Nat} {v : Value} {T : Sps} {n : Int}
set_option maxRecDepth 100000 in
set_option maxHeartbeats 2000000 in
theorem rfind_yes (hb : Laid w q 29 #[v]) (hr : Row rSp 0 w v (heads T)) (hl : T.length ≤ 255) (hd : nodT T) {i : Nat} (hi : i < T.length) (hn : (T.getD i zT).1.n = n) :
    Calls Try.prog 34 #[.pointer (some ⟨q, 0, none⟩), .int .i64 n] w fun e w' => e = .returned (.int .i64 i) ∧ w' = w := by
  obtain ⟨ao, c, rfl⟩ := hr.form
  have HAT : Hid (∀ k, k < T.length → ∃ g, ao = some ⟨g, 0, none⟩ ∧ w.cell? ⟨g, k * 3, none⟩ = some (.int .i64 (T.getD k zT).1.n)) := fun k hk => by
    obtain ⟨g, rfl, -, -, -, -, -, hat⟩ := hr.at (show k < (heads T).length by rw [heads_len]; exact hk)
    refine ⟨g, rfl, ?_⟩
    have h3 := (rSp.at hat).1
    rwa [show (heads T).getD k rSp.zero = (T.getD k zT).1 from heads_get T hk] at h3
  rw [heads_len] at *
  have c0 : w.cell? ⟨q, 0, none⟩ = some (.slice ao T.length c) := by rw [hb.cell]; rfl
  have HNE : Hid (∀ k, k < i → (T.getD k zT).1.n ≠ n) := fun k hk e => by
    have := hd k i (by omega) hi (by rw [e, hn])
    omega
  have HN : Hid ((T.getD i zT).1.n = n) := hn
  have hl' : T.length ≤ 9223372036854775807 := by omega
  clear hb hr hd hn hl
  go_enter Try.func34, Try.ntmps34
  go_wp2
  go_loopw [5] (fun iv W => W = w ∧ ∃ k : Nat, k ≤ i ∧ iv = .int .i64 k) (fun iv _ => i + 1 - (intOf iv).toNat)
  case atStart => exact ⟨rfl, 0, Nat.zero_le _, rfl⟩
  case round =>
    obtain ⟨rfl, k, hk, rfl⟩ := hrel
    have hkl : (k : Int) < (T.length : Int) := by omega
    obtain ⟨g, rfl, c1⟩ := HAT.out k (by omega)
    by_cases e : k = i
    · subst e
      rw [HN.out] at c1
      go_wp2
      go_ret
      exact ⟨rfl, rfl⟩
    · have hne := HNE.out k (by omega)
      generalize (T.getD k zT).1.n = x at *
      go_wp2
      go_roundw
      case rel => exact ⟨trivial, k + 1, by omega, by go_num⟩
      case measure => simp only [intOf]; omega
set_option maxRecDepth 100000 in
set_option maxHeartbeats 2000000 in
theorem rfind_no (hb : Laid w q 29 #[v]) (hr : Row rSp 0 w v (heads T)) (hl : T.length ≤ 255) (hn : lkT T n = none) :
    Calls Try.prog 34 #[.pointer (some ⟨q, 0, none⟩), .int .i64 n] w fun e w' => e = .returned (.int .i64 (-1)) ∧ w' = w := by
  obtain ⟨ao, c, rfl⟩ := hr.form
  have HAT : Hid (∀ k, k < T.length → ∃ g, ao = some ⟨g, 0, none⟩ ∧ w.cell? ⟨g, k * 3, none⟩ = some (.int .i64 (T.getD k zT).1.n)) := fun k hk => by
    obtain ⟨g, rfl, -, -, -, -, -, hat⟩ := hr.at (show k < (heads T).length by rw [heads_len]; exact hk)
    refine ⟨g, rfl, ?_⟩
    have h3 := (rSp.at hat).1
    rwa [show (heads T).getD k rSp.zero = (T.getD k zT).1 from heads_get T hk] at h3
  rw [heads_len] at *
  have c0 : w.cell? ⟨q, 0, none⟩ = some (.slice ao T.length c) := by rw [hb.cell]; rfl
  have HNE : Hid (∀ k, k < T.length → (T.getD k zT).1.n ≠ n) := (lk_none T n).1 hn
  have hl' : T.length ≤ 9223372036854775807 := by omega
  clear hb hr hn hl
  go_enter Try.func34, Try.ntmps34
  go_wp2
  go_loopw [5] (fun iv W => W = w ∧ ∃ k : Nat, k ≤ T.length ∧ iv = .int .i64 k) (fun iv _ => T.length - (intOf iv).toNat)
  case atStart => exact ⟨rfl, 0, Nat.zero_le _, rfl⟩
  case round =>
    obtain ⟨rfl, k, hk, rfl⟩ := hrel
    by_cases e : k < T.length
    · have hkl : (k : Int) < (T.length : Int) := by omega
      obtain ⟨g, rfl, c1⟩ := HAT.out k e
      have hne := HNE.out k e
      generalize (T.getD k zT).1.n = x at *
      go_wp2
      go_roundw
      case rel => exact ⟨trivial, k + 1, by omega, by go_num⟩
      case measure => simp only [intOf]; omega
    · obtain rfl : k = T.length := by omega
      go_wp2
      go_ret
      exact ⟨rfl, rfl⟩
end
end Go.Proofs.Ytoimmapdkapheaa
/- The document's pages of a list. -/
namespace Go.Proofs.Ytoimmapdkapheaa
set_option maxRecDepth 4000
open Go.RowKit

theorem rAPg.zone : ∀ i z, Try.prog.info? rAPg.t = some i → i.zero = some z → z.cells = (rAPg.cells rAPg.zero).toArray := by
  intro i z hi hz
  have h : (Try.prog.info? 72).map (fun i => i.zero) = some (some (.agg #[.bool false, .bool false, .bool false, .bool false])) := by kernel_rfl
  rw [show Try.prog.info? 72 = some i from hi, Option.map_some, hz] at h
  simp at h
  subst h
  rfl
theorem APg.kin' : Kin Try.prog rAPg 56 := APg.kin

end Go.Proofs.Ytoimmapdkapheaa
/- One more space of the document's; Make. -/
namespace Go.Proofs.Ytoimmapdkapheaa
set_option maxRecDepth 4000
open Go.RowKit

theorem row_turn {α : Type} {R : Rec α} {F : Nat → Prop} {w w' : World} {v v' : Value} {l l' : List α} (h : (Th.row R v l).In F w) (hr : Row R 0 w' v' l') (hg : w.grownBy w' v.ownBlock) (hn : ∀ g, v'.ownBlock = some g → v.ownBlock = some g ∨ w.heap.size ≤ g) : Bec F w (.row R v' l') w' :=
  ⟨fun c => v'.ownBlock = some c, fun c hc => (hn c hc).imp (fun e => (h.1 c).2 e) id, row_in hr, (Keeps.of_grown hg).mono fun c _ e => (h.1 c).2 e⟩
/-- 'append' at a step of a region that draws, where its run is known. -/
theorem step_appR {P : Program} {s : TypeId} {ops : Array Oper} {o : Oper} {a : Act} {w : World} {K : Act → World → Prop} {Q : Exit → Act → World → Prop} {E : Prop} (hg : o.guard = none) (x y : Operand) (ho : o.op = .call { callee := .builtin .append, args := #[x, y], argTypes := #[s, s] }) (v u : Value) (hv : a.eval x = v) (hu : a.eval y = u) {v' : Value} {w' : World}
    (hr : (Builtin.append_ #[s, s] o.type #[v, u]).run P w = .ok v' w') (hK : K (a.put o.dst v') w') : if Region.wanted o (yielded ops a.tmps) = true then Oper.wp P o a w K Q else E := by
  rw [if_pos (show Region.wanted o (yielded ops a.tmps) = true by simp [Region.wanted, hg])]
  unfold Oper.wp execOp
  simp only [ho, resolve, invoke, builtin, Sem.run_bind, Sem.run_pure, Result.andThen_ok, List.map_toArray, List.map_cons, List.map_nil, hv, hu, hr]
  exact hK
theorem heads_app (T : Sps) (x : SpV × Sp) : heads (T ++ [x]) = heads T ++ [x.1] := by simp [heads]
theorem spTs_app (T : Sps) (x : SpV × Sp) : spTs (T ++ [x]) = spTs T ++ [spT x] := by simp [spTs]
theorem nod_app {T : Sps} {x : SpV × Sp} (h : nodT T) (hx : lkT T x.1.n = none) : nodT (T ++ [x]) := by
  have hx' := (lk_none T x.1.n).1 hx
  intro i j hi hj e
  rw [List.length_append, List.length_singleton] at hi hj
  have g1 : ∀ k, k < T.length → (T ++ [x]).getD k zT = T.getD k zT := fun k hk => by
    rw [List.getD_eq_getElem?_getD, List.getD_eq_getElem?_getD, List.getElem?_append_left hk]
  have g2 : (T ++ [x]).getD T.length zT = x := by
    rw [List.getD_eq_getElem?_getD, List.getElem?_append_right (Nat.le_refl _)]
    simp
  by_cases hi' : i < T.length
  · by_cases hj' : j < T.length
    · rw [g1 i hi', g1 j hj'] at e
      exact h i j hi' hj' e
    · have : j = T.length := by omega
      subst this
      rw [g1 i hi', g2] at e
      exact absurd e (hx' i hi')
  · have : i = T.length := by omega
    subst this
    by_cases hj' : j < T.length
    · rw [g1 j hj', g2] at e
      exact absurd e.symm (hx' j hj')
    · omega
/-- 'append(xs, ys...)': in place, or all that was there stays. -/
theorem app_stays {P : Program} {α : Type} {R : Rec α} {s : TypeId} (k : Kin P R s) (w : World) (ty : TypeId) (B : Nat) (v : Value) (l1 l2 : List α) (h : Row R B w v l1) (ao : Option Addr) (c : Nat) (hs : Seen R w ao c l2) (hm : l1.length + l2.length ≤ maxLen) (hb : (l1.length + l2.length) * R.bytes ≤ 140737488355328) (_ : B ≤ w.heap.size)
    {v' : Value} {w' : World} (hr : (Builtin.append_ #[s, s] ty #[v, .slice ao l2.length c]).run P w = .ok v' w') : v'.ownBlock = v.ownBlock ∨ Below w.heap.size w w' := by
  obtain ⟨i, z, hi, hz0, hz1, hz2, hzs⟩ := k.inf
  cases ao with
  | none =>
    obtain ⟨rfl, rfl⟩ := hs.1 rfl
    have hr2 := run_append_owned_none (P := P) w B s ty R.t i R.n k.und hi _ _ _ h
    have e := hr.symm.trans hr2
    cases e
    exact Or.inl rfl
  | some ad =>
    rcases h.cases with ⟨rfl, rfl⟩ | ⟨g, c1, cur, rfl, hB1, hlt, hg, hlc, hcm, hs1, ht⟩
    · by_cases h0 : l2.length = 0
      · have hl2 := List.eq_nil_of_length_eq_zero h0
        subst hl2
        have hr2 : (Builtin.append_ #[s, s] ty #[.slice none 0 0, .slice (some ad) 0 c]).run P w = .ok (.slice none 0 0) w := by
          simp [Builtin.append_, run_underlying k.und, sizeOf, typeInfo, hi, Builtin.lenOf, Builtin.firstCells, loadCells, loadCellsFrom]
        have e := hr.symm.trans hr2
        cases e
        exact Or.inl rfl
      · have hr2 := run_append_nil (P := P) w s ty R.t i z k.und hi hz0 ad l2.length c (R.all l2) (by rw [hz1]; exact R.all_len l2) (hs.news ad rfl) (by omega) (by unfold maxLen at hm; simp at hm; omega) (by rw [hz2]; simp at hb; omega)
        have e := hr.symm.trans hr2
        cases e
        exact Or.inr ((Below.refl w.heap.size w).drew.alloc (Nat.le_refl _) _)
    · by_cases hroom : l1.length + l2.length ≤ c1
      · have hr2 := run_append_room (P := P) w s ty R.t i k.und hi g l1.length c1 cur hg ad l2.length c (R.all l2) (by rw [hz1]; exact R.all_len l2) (hs.news ad rfl) (R.all_oneCell l2) hroom (by rw [hz1, R.all_len, hs1, ← Nat.add_mul]; exact Nat.mul_le_mul_right _ hroom)
        have e := hr.symm.trans hr2
        cases e
        exact Or.inl rfl
      · have hr2 := run_append_grow (P := P) w s ty R.t i z k.und hi hz0 ⟨g, 0, none⟩ l1.length c1 (R.all l1) (by rw [hz1]; exact R.all_len l1) (World.ownsRow.cells (g := g) h rfl) ad l2.length c (R.all l2) (by rw [hz1]; exact R.all_len l2) (hs.news ad rfl) (by omega) (by unfold maxLen at hm; omega) (by rw [hz2]; exact growslice_fits (by omega) hb)
        have e := hr.symm.trans hr2
        cases e
        exact Or.inr ((Below.refl w.heap.size w).drew.alloc (Nat.le_refl _) _)
/-- What the store of a longer list leaves. -/
structure PushP (F : Nat → Prop) (w W : World) (q : Nat) (v : Value) (T : Sps) (A' : Wd) (b : Nat) (v' : Value) (w4 : World) : Prop where
  run : (Builtin.append_ #[27, 27] 27 #[v, .slice (some ⟨b, 0, none⟩) 1 1]).run Try.prog W = .ok v' w4
  form : ∃ ao n c, v' = .slice ao n c
  cell : w4.cell? ⟨q, 0, none⟩ = some v
  frz : w4.frozen? ⟨q, 0, none⟩ = false
  old : ∀ g, v.ownBlock = some g → ∀ i, i < T.length → At rSp w4 g (i * 3) (T.getD i zT).1
  bec : Bec F w (FmT q A') (w4.setCell ⟨q, 0, none⟩ v')
theorem fm_push {F : Nat → Prop} {w W2 : World} {q : Nat} {v : Value} {T : Sps} {A : Wd} {x : SpV} {s : Sp} (h : Bec F w ((spT (x, s)).and (FmX q v T)) W2) (hT : FmOk T A) (hn : okN x.n) (hs : s.ok) (hx : A x.n = none) :
    ∃ v' w4, PushP F w (W2.alloc (.cells #[.int .i64 x.n, x.vp, x.vw] 59)) q v T (A.set x.n (some s)) W2.heap.size v' w4 := by
  have hb1 := new_below W2 (.cells #[.int .i64 x.n, x.vp, x.vw] 59)
  have h1 := h.below hb1
  have hfew := hT.few
  obtain ⟨B, b1, b2⟩ := (h1.imp (Th.le.trans (and_left _ _ _) (Th.le.trans (and_mono (Th.le.refl _) (and_left _ _ _)) (and_left _ _ _)))).open
  obtain ⟨B2, b3, b4⟩ := h1.next
  obtain ⟨C, D, e1, e2, c1, c2⟩ := b3
  have hbox := FmX.box c2
  have hrow := FmX.row c2
  have hnew := At.new (R := rSp) W2 x (.cells #[.int .i64 x.n, x.vp, x.vw] 59) rfl
  have hseen : Seen rSp (W2.alloc (.cells #[.int .i64 x.n, x.vp, x.vw] 59)) (some ⟨W2.heap.size, 0, none⟩) 1 [x] := Seen.one (by simp) hnew 1
  obtain ⟨v', w4, r0, r1, r2, r3, -⟩ := run_app' rSp.kin (W2.alloc (.cells #[.int .i64 x.n, x.vp, x.vw] 59)) 27 0 v (heads T) [x] hrow (some ⟨W2.heap.size, 0, none⟩) 1 hseen (by rw [heads_len]; unfold maxLen; simp; omega) (by rw [heads_len]; simp only [rSp, List.length_singleton]; omega) (Nat.zero_le _)
  have hne : some q ≠ v.ownBlock := fun e => by
    obtain ⟨cur, hc⟩ := hrow.tag e.symm
    exact absurd rfl (ne_of_tag hbox hc (by decide))
  have hbox4 : Laid w4 q 29 #[v] := hbox.kept r2 hne
  refine ⟨v', w4, r0, ?_, by rw [hbox4.cell]; rfl, frozen_of_row w4 q 0 _ _ hbox4, fun g hg i hi => ?_, ?_⟩
  · obtain ⟨ao, c, e⟩ := r1.form
    exact ⟨ao, _, c, e⟩
  · obtain ⟨ao0, c0, rfl⟩ := hrow.form
    rcases app_stays rSp.kin _ _ 0 _ (heads T) [x] hrow (some ⟨W2.heap.size, 0, none⟩) 1 hseen (by rw [heads_len]; unfold maxLen; simp; omega) (by rw [heads_len]; simp only [rSp, List.length_singleton]; omega) (Nat.zero_le _) r0 with e | e
    · obtain ⟨ao, c, rfl⟩ := r1.form
      obtain ⟨g', rfl, -, -, -, -, -, hat⟩ := r1.at (k := i) (by rw [List.length_append, heads_len]; simp; omega)
      rw [hg] at e
      simp [Value.ownBlock] at e
      subst e
      have e2 : (heads T ++ [x]).getD i rSp.zero = (T.getD i zT).1 := by
        rw [List.getD_eq_getElem?_getD, List.getElem?_append_left (by rw [heads_len]; exact hi), ← List.getD_eq_getElem?_getD]
        exact heads_get T hi
      rw [e2] at hat
      exact hat
    · obtain ⟨g', rfl, -, -, hlt, -, -, hat⟩ := hrow.at (k := i) (by rw [heads_len]; exact hi)
      simp [Value.ownBlock] at hg
      subst hg
      rw [show (heads T).getD i rSp.zero = (T.getD i zT).1 from heads_get T hi] at hat
      exact hat.same (e.block _ hlt)
  · have k1 := (b2 (row_turn b1 r1 r2 r3)).imp (and_left _ _ _)
    obtain ⟨G, k2, k3⟩ := k1.open
    refine (k3 (box_put k2 0 v')).imp fun {F' w'} k => ⟨(v', T ++ [(x, s)]), ⟨?_, hT.ok.set hn hs, nod_app hT.nod (by rw [hT.eq]; exact hx)⟩, ?_⟩
    · show lkT (T ++ [(x, s)]) = _
      rw [lk_app T (x, s) (by rw [hT.eq]; exact hx), hT.eq]
    · show (FmX q v' (T ++ [(x, s)])).In F' w'
      unfold FmX
      rw [heads_app, spTs_app]
      exact and_mono (Th.le.refl _) (and_mono (Th.le.refl _) (all_snoc _ _)) k
end Go.Proofs.Ytoimmapdkapheaa
/- The document's Make. -/
namespace Go.Proofs.Ytoimmapdkapheaa
set_option maxRecDepth 4000
open Go.RowKit

section
variable {P : Program} {α : Type} {R : Rec α} {s : TypeId}
theorem run_makeA (k : Kin P R s) (hz : ∀ i z, P.info? R.t = some i → i.zero = some z → z.cells = (R.cells R.zero).toArray) (n : Nat) (hm : n ≤ maxLen) (hb : R.bytes * n ≤ 281474976710656) :
    ∃ cs : Array Value, ∀ w, (Instr.makeSlice s (.int .i64 n) (.int .i64 n)).run P w = .ok (.slice (some ⟨w.heap.size, 0, none⟩) n n) (w.alloc (.cells cs R.t)) ∧ Row R w.heap.size (w.alloc (.cells cs R.t)) (.slice (some ⟨w.heap.size, 0, none⟩) n n) (List.replicate n R.zero) := by
  obtain ⟨i, z, hi, hz0, hz1, hz2, hzs⟩ := k.inf
  have hzc := hz i z hi hz0
  have hb' : (i.bytes : Int) * (n : Int) ≤ 281474976710656 := by
    have h : ((i.bytes * n : Nat) : Int) ≤ 281474976710656 := by rw [hz2]; omega
    rwa [Int.natCast_mul] at h
  refine ⟨madeCells z.cells (n * i.size), fun w => ?_⟩
  have hr := run_make (P := P) w s R.t i z k.und hi hz0 .i64 .i64 n n (by omega) (Int.le_refl _) hb' (by unfold maxLen at hm; omega)
  simp only [Int.toNat_natCast] at hr
  refine ⟨hr, ?_⟩
  have hlen : (List.replicate n R.zero).length = n := by simp
  have := Row.of_cells (R := R) (B := w.heap.size) (w' := w.alloc (.cells (madeCells z.cells (n * i.size)) R.t)) (g := w.heap.size) (c := n) (l' := List.replicate n R.zero) (Nat.le_refl _) (heap_alloc_new w _) (by rw [hlen]; exact Nat.le_refl _) hm (by rw [size_madeCells, hz1]) (by
    intro q hq j hj
    rw [hlen] at hq
    have hlt : q * R.n + j < n * R.n := by
      have : (q + 1) * R.n ≤ n * R.n := Nat.mul_le_mul_right _ hq
      rw [Nat.add_mul] at this
      omega
    rw [hz1, made_at _ _ _ hlt, hzc]
    have e1 : (q * R.n + j) % (R.cells R.zero).toArray.size = j := by
      rw [List.size_toArray, R.len, Nat.mul_comm, Nat.mul_add_mod, Nat.mod_eq_of_lt hj]
    rw [e1, List.getD_eq_getElem?_getD, List.getElem?_replicate, if_pos hq, Option.getD_some]
    have hjl : j < (R.cells R.zero).length := by rw [R.len]; exact hj
    rw [List.getElem?_eq_getElem hjl]
    simp [hjl])
  rwa [hlen] at this
end
theorem pages_new : pagesA newS.f = List.replicate 4096 rAPg.zero := by
  unfold pagesA newS
  exact ofF_const 4096 (pgA none)
theorem words_new : wordsA newS.wd = List.replicate 4096 rW8.zero := words_zero
section
variable {F : Nat → Prop} {w : World} {q : Nat} {A A' : Wd} {n code : Int}
def FmP (F : Nat → Prop) (w : World) (q : Nat) (A' : Wd) (code : Int) (e : Ending) (w' : World) : Prop := e = .returned (.int .i64 code) ∧ Bec F w (FmT q A') w'
set_option maxRecDepth 100000 in
set_option maxHeartbeats 8000000 in
theorem rmake_any (h : (FmT q A).In F w) (hd : MakeD A n code A') : Calls Try.prog 26 #[.pointer (some ⟨q, 0, none⟩), .int .i64 n] w (FmP F w q A' code) := by
  have HR : Hid (Bec F w (FmT q A) w) := Bec.refl h
  obtain ⟨⟨v, T⟩, hT, h⟩ := h
  simp only at h hT HR
  rcases hd with ⟨h1, rfl, rfl⟩ | ⟨h1, h2, rfl, rfl⟩ | ⟨h1, h2, rfl, rfl⟩
  · clear h hT
    by_cases h0 : n < 1
    · go_enter Try.func26, Try.ntmps26
      go_wp2
      go_ret
      exact ⟨rfl, HR.out⟩
    · have h3 : 255 < n := by unfold okN at h1; omega
      go_enter Try.func26, Try.ntmps26
      go_wp2
      go_ret
      exact ⟨rfl, HR.out⟩
  · obtain ⟨s, hs⟩ := Option.ne_none_iff_exists'.1 h2
    obtain ⟨i, hi, hin, -⟩ := lk_mem (T := T) (by rw [hT.eq]; exact hs)
    have hf := rfind_yes (FmX.box h) (FmX.row h) hT.few hT.nod hi hin
    have ha : ¬ n < 1 := by have := h1.1; omega
    have hb : ¬ 255 < n := by have := h1.2; omega
    clear h hT h1 h2 hs hi hin
    go_enter Try.func26, Try.ntmps26
    go_wp2_with fail
    refine hf.mono ?_
    rintro e w1 ⟨rfl, hw⟩
    obtain rfl := hw.symm
    clear hw
    have hp : (0 : Int) ≤ (i : Int) := by omega
    go_wp2
    go_ret
    exact ⟨rfl, HR.out⟩
  · have hf := rfind_no (FmX.box h) (FmX.row h) hT.few (by rw [hT.eq]; exact h2)
    have ha : ¬ n < 1 := by have := h1.1; omega
    have hb : ¬ 255 < n := by have := h1.2; omega
    obtain ⟨csP, hP⟩ := run_makeA APg.kin rAPg.zone 4096 (by unfold maxLen; omega) (by decide)
    obtain ⟨csW, hW⟩ := run_makeA rW8.kin rW8.zone 4096 (by unfold maxLen; omega) (by decide)
    have mP : ∀ w, (Instr.makeSlice 56 (.int .i64 4096) (.int .i64 4096)).run Try.prog w = .ok (.slice (some ⟨w.heap.size, 0, none⟩) 4096 4096) (w.alloc (.cells csP 72)) := fun w => (hP w).1
    have mW : ∀ w, (Instr.makeSlice 57 (.int .i64 4096) (.int .i64 4096)).run Try.prog w = .ok (.slice (some ⟨w.heap.size, 0, none⟩) 4096 4096) (w.alloc (.cells csW 77)) := fun w => (hW w).1
    have c0 : w.cell? ⟨q, 0, none⟩ = some v := by rw [(FmX.box h).cell]; rfl
    have lq := (FmX.box h).lt
    have HD : Below w.heap.size w w.drew := (Below.refl _ _).drew
    have HA0 : (∃ v' w4, PushP F w (((w.drew.alloc (.cells csP 72)).alloc (.cells csW 77)).alloc (.cells #[.int .i64 n, .slice (some ⟨w.heap.size, 0, none⟩) 4096 4096, .slice (some ⟨w.heap.size + 1, 0, none⟩) 4096 4096] 59)) q v T (A.set n (some newS)) (w.heap.size + 1 + 1) v' w4) := by
      have k1 := ((Bec.refl h).below HD).new (row_new (hP w.drew).2 (new_below _ _))
      have k2 := k1.new (row_new (hW (w.drew.alloc (.cells csP 72))).2 (new_below _ _))
      rw [← pages_new, ← words_new] at k2
      have k3 := k2.imp (Th.le.trans (and_left _ _ _) (and_assoc' _ _ _))
      have := fm_push (x := ⟨n, w.heap.size, 4096, w.heap.size + 1, 4096⟩) (s := newS) (by simpa [spT, SpV.vp, SpV.vw, rAPg, rW8] using k3) hT h1 newS_ok h2
      simpa [SpV.vp, SpV.vw] using this
    have HB0 : (∃ v' w4, PushP F w (((w.drew.alloc (.cells csW 77)).alloc (.cells csP 72)).alloc (.cells #[.int .i64 n, .slice (some ⟨w.heap.size + 1, 0, none⟩) 4096 4096, .slice (some ⟨w.heap.size, 0, none⟩) 4096 4096] 59)) q v T (A.set n (some newS)) (w.heap.size + 1 + 1) v' w4) := by
      have k1 := ((Bec.refl h).below HD).new (row_new (hW w.drew).2 (new_below _ _))
      have k2 := k1.new (row_new (hP (w.drew.alloc (.cells csW 77))).2 (new_below _ _))
      rw [← pages_new, ← words_new] at k2
      have k3 := k2.imp (and_assoc' _ _ _)
      have := fm_push (x := ⟨n, w.heap.size + 1, 4096, w.heap.size, 4096⟩) (s := newS) (by simpa [spT, SpV.vp, SpV.vw, rAPg, rW8] using k3) hT h1 newS_ok h2
      simpa [SpV.vp, SpV.vw] using this
    have HA : Hid _ := HA0
    have HB : Hid _ := HB0
    clear HA0 HB0
    have KEEP : Hid (∀ w', Below w.heap.size w w' → w'.cell? ⟨q, 0, none⟩ = some v) := fun w' hb' => (hb'.cell lq).trans c0
    clear h hT h1 h2 hP hW HR HD
    obtain ⟨vP, wP, hPP⟩ := HA.out
    obtain ⟨vW, wW, hWW⟩ := HB.out
    have HPP : Hid _ := hPP
    have HWW : Hid _ := hWW
    obtain ⟨aoP, nP, cP, eP⟩ := hPP.form
    obtain ⟨aoW, nW, cW, eW⟩ := hWW.form
    have rP := hPP.run
    have rW := hWW.run
    have xP := hPP.cell
    have xW := hWW.cell
    have fP := hPP.frz
    have fW := hWW.frz
    subst eP
    subst eW
    clear hPP hWW HA HB
    go_enter Try.func26, Try.ntmps26
    go_wp2_with fail
    refine hf.mono ?_
    rintro e w1 ⟨rfl, hw⟩
    obtain rfl := hw.symm
    clear hw
    go_wp2_with fail
    refine wp_region_X (fun w' => w'.cell? ⟨q, 0, none⟩ = some v) [13] (by kernel_rfl) ?_
    have hHeld : w.drew.cell? ⟨q, 0, none⟩ = some v := c0
    refine wpAnyX_take (i := 0) (v := ?v0) rfl (by kernel_rfl) (by kernel_rfl) (by kernel_rfl) (by kernel_rfl) (by kernel_rfl) (fun _ _ _ h => h) (Or.inl ⟨by rfl, ?hy0⟩) hHeld ?rest0
    case hy0 => intro w hSw; (try dsimp only at hSw); go_simp; try with_reducible rfl
    case rest0 =>
    simp only [Act.put, List.setIfInBounds_toArray, List.set_cons_zero, List.set_cons_succ, List.getElem_toArray, List.getElem_cons_zero]
    refine wpAnyX_take (i := 1) (v := ?v1) rfl (by kernel_rfl) (by kernel_rfl) (by kernel_rfl) (by kernel_rfl) (by kernel_rfl) (fun _ _ _ h => h) (Or.inl ⟨by rfl, ?hy1⟩) hHeld ?rest1
    case hy1 => intro w hSw; (try dsimp only at hSw); go_simp; try with_reducible rfl
    case rest1 =>
    simp only [Act.put, List.setIfInBounds_toArray, List.set_cons_zero, List.set_cons_succ, List.getElem_toArray, List.getElem_cons_zero, List.getElem_cons_succ]
    refine wpAnyX_take (i := 2) (v := ?v2) rfl (by kernel_rfl) (by kernel_rfl) (by kernel_rfl) (by kernel_rfl) (by kernel_rfl) (fun _ _ _ h => h) (Or.inl ⟨by rfl, ?hy2⟩) hHeld ?rest2
    case hy2 => intro w hSw; (try dsimp only at hSw); go_simp; try with_reducible rfl
    case rest2 =>
    simp only [Act.put, List.setIfInBounds_toArray, List.set_cons_zero, List.set_cons_succ, List.getElem_toArray, List.getElem_cons_zero, List.getElem_cons_succ]
    refine wpAnyX_take (i := 3) (v := ?v3) rfl (by kernel_rfl) (by kernel_rfl) (by kernel_rfl) (by kernel_rfl) (by kernel_rfl) (fun _ _ _ h => h) (Or.inl ⟨by rfl, ?hy3⟩) hHeld ?rest3
    case hy3 => intro w hSw; (try dsimp only at hSw); go_simp; try with_reducible rfl
    case rest3 =>
    simp only [Act.put, List.setIfInBounds_toArray, List.set_cons_zero, List.set_cons_succ, List.getElem_toArray, List.getElem_cons_zero, List.getElem_cons_succ]
    refine wpAnyX_take (i := 4) (v := ?v4) rfl (by kernel_rfl) (by kernel_rfl) (by kernel_rfl) (by kernel_rfl) (by kernel_rfl) (fun _ _ _ h => h) (Or.inl ⟨by rfl, ?hy4⟩) hHeld ?rest4
    case hy4 => intro w hSw; (try dsimp only at hSw); go_simp; try with_reducible rfl
    case rest4 =>
    simp only [Act.put, List.setIfInBounds_toArray, List.set_cons_zero, List.set_cons_succ, List.getElem_toArray, List.getElem_cons_zero, List.getElem_cons_succ]
    refine wpAnyX_take (i := 5) (v := ?v5) rfl (by kernel_rfl) (by kernel_rfl) (by kernel_rfl) (by kernel_rfl) (by kernel_rfl) (fun _ _ _ h => h) (Or.inl ⟨by rfl, ?hy5⟩) hHeld ?rest5
    case hy5 => intro w hSw; (try dsimp only at hSw); go_simp; try with_reducible rfl
    case rest5 =>
    simp only [Act.put, List.setIfInBounds_toArray, List.set_cons_zero, List.set_cons_succ, List.getElem_toArray, List.getElem_cons_zero, List.getElem_cons_succ]
    refine wpAnyX_two (i := 6) (j := 7) (by kernel_rfl) rfl rfl (fun K hK => ?_) (fun K hK => ?_)
    · go_simp
      refine hK.out _ _ (KEEP.out _ ((Below.refl _ _).drew.alloc (Nat.le_refl _) _)) ?_
      clear hK K hHeld
      refine wpAnyX_one (i := 7) (by kernel_rfl) rfl (fun K hK => ?_)
      go_simp
      have hHeld : ((w.drew.alloc (.cells csP 72)).alloc (.cells csW 77)).cell? ⟨q, 0, none⟩ = some v := KEEP.out _ (((Below.refl _ _).drew.alloc (Nat.le_refl _) _).alloc (by simp) _)
      refine hK.out _ _ hHeld ?_
      clear hK K
      refine wpAnyX_take (i := 8) (v := ?v8) rfl (by kernel_rfl) (by kernel_rfl) (by kernel_rfl) (by kernel_rfl) (by kernel_rfl) (fun _ _ _ h => h) (Or.inl ⟨by rfl, ?hy8⟩) hHeld ?rest8
      case hy8 => intro w hSw; (try dsimp only at hSw); go_simp; try with_reducible rfl
      case rest8 =>
      simp only [Act.put, List.setIfInBounds_toArray, List.set_cons_zero, List.set_cons_succ, List.getElem_toArray, List.getElem_cons_zero, List.getElem_cons_succ]
      refine wpAnyX_one (i := 9) (by kernel_rfl) rfl (fun K hK => ?_)
      go_simp
      refine hK.out _ _ (KEEP.out _ ((((Below.refl _ _).drew.alloc (Nat.le_refl _) _).alloc (by simp) _).alloc (by simp; omega) _)) ?_
      clear hK K hHeld
      refine wpAnyX_one (i := 10) (by kernel_rfl) rfl (fun K hK => ?_)
      refine step_appR rfl (.tmp 19) (.tmp 24) rfl _ _ rfl rfl rP ?_
      refine hK.out _ _ xP ?_
      clear hK K
      have hHeld := xP
      refine wpAnyX_take (i := 11) (v := ?v11) rfl (by kernel_rfl) (by kernel_rfl) (by kernel_rfl) (by kernel_rfl) (by kernel_rfl) (fun _ _ _ h => h) (Or.inl ⟨by rfl, ?hy11⟩) hHeld ?rest11
      case hy11 => intro w hSw; (try dsimp only at hSw); go_simp; try with_reducible rfl
      case rest11 =>
      simp only [Act.put, List.setIfInBounds_toArray, List.set_cons_zero, List.set_cons_succ, List.getElem_toArray, List.getElem_cons_zero, List.getElem_cons_succ]
      refine wpAnyX_take (i := 12) (v := ?v12) rfl (by kernel_rfl) (by kernel_rfl) (by kernel_rfl) (by kernel_rfl) (by kernel_rfl) (fun _ _ _ h => h) (Or.inl ⟨by rfl, ?hy12⟩) hHeld ?rest12
      case hy12 => intro w hSw; (try dsimp only at hSw); go_simp; try with_reducible rfl
      case rest12 =>
      simp only [Act.put, List.setIfInBounds_toArray, List.set_cons_zero, List.set_cons_succ, List.getElem_toArray, List.getElem_cons_zero, List.getElem_cons_succ]
      refine wpAnyX_last (i := 13) (by kernel_rfl) rfl (by kernel_rfl) (fun K hK => ?_)
      go_simp
      refine hK.out _ _ ?_
      clear hK K hHeld
      refine wpAnyX_done (by kernel_rfl) ?_ _
      go_wp2
      go_ret
      exact ⟨rfl, HPP.out.bec⟩
    · go_simp
      refine hK.out _ _ (KEEP.out _ ((Below.refl _ _).drew.alloc (Nat.le_refl _) _)) ?_
      clear hK K hHeld
      refine wpAnyX_one (i := 6) (by kernel_rfl) rfl (fun K hK => ?_)
      go_simp
      have hHeld : ((w.drew.alloc (.cells csW 77)).alloc (.cells csP 72)).cell? ⟨q, 0, none⟩ = some v := KEEP.out _ (((Below.refl _ _).drew.alloc (Nat.le_refl _) _).alloc (by simp) _)
      refine hK.out _ _ hHeld ?_
      clear hK K
      refine wpAnyX_take (i := 8) (v := ?v8b) rfl (by kernel_rfl) (by kernel_rfl) (by kernel_rfl) (by kernel_rfl) (by kernel_rfl) (fun _ _ _ h => h) (Or.inl ⟨by rfl, ?hy8b⟩) hHeld ?rest8b
      case hy8b => intro w hSw; (try dsimp only at hSw); go_simp; try with_reducible rfl
      case rest8b =>
      simp only [Act.put, List.setIfInBounds_toArray, List.set_cons_zero, List.set_cons_succ, List.getElem_toArray, List.getElem_cons_zero, List.getElem_cons_succ]
      refine wpAnyX_one (i := 9) (by kernel_rfl) rfl (fun K hK => ?_)
      go_simp
      refine hK.out _ _ (KEEP.out _ ((((Below.refl _ _).drew.alloc (Nat.le_refl _) _).alloc (by simp) _).alloc (by simp; omega) _)) ?_
      clear hK K hHeld
      refine wpAnyX_one (i := 10) (by kernel_rfl) rfl (fun K hK => ?_)
      refine step_appR rfl (.tmp 19) (.tmp 24) rfl _ _ rfl rfl rW ?_
      refine hK.out _ _ xW ?_
      clear hK K
      have hHeld := xW
      refine wpAnyX_take (i := 11) (v := ?v11b) rfl (by kernel_rfl) (by kernel_rfl) (by kernel_rfl) (by kernel_rfl) (by kernel_rfl) (fun _ _ _ h => h) (Or.inl ⟨by rfl, ?hy11b⟩) hHeld ?rest11b
      case hy11b => intro w hSw; (try dsimp only at hSw); go_simp; try with_reducible rfl
      case rest11b =>
      simp only [Act.put, List.setIfInBounds_toArray, List.set_cons_zero, List.set_cons_succ, List.getElem_toArray, List.getElem_cons_zero, List.getElem_cons_succ]
      refine wpAnyX_take (i := 12) (v := ?v12b) rfl (by kernel_rfl) (by kernel_rfl) (by kernel_rfl) (by kernel_rfl) (by kernel_rfl) (fun _ _ _ h => h) (Or.inl ⟨by rfl, ?hy12b⟩) hHeld ?rest12b
      case hy12b => intro w hSw; (try dsimp only at hSw); go_simp; try with_reducible rfl
      case rest12b =>
      simp only [Act.put, List.setIfInBounds_toArray, List.set_cons_zero, List.set_cons_succ, List.getElem_toArray, List.getElem_cons_zero, List.getElem_cons_succ]
      refine wpAnyX_last (i := 13) (by kernel_rfl) rfl (by kernel_rfl) (fun K hK => ?_)
      go_simp
      refine hK.out _ _ ?_
      clear hK K hHeld
      refine wpAnyX_done (by kernel_rfl) ?_ _
      go_wp2
      go_ret
      exact ⟨rfl, HWW.out.bec⟩
end
end Go.Proofs.Ytoimmapdkapheaa
