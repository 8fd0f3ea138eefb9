/- Own texts, joined: ATell, ABox, ARgb, FTurn, FLy, FChg, FAt, FAr, FClo, FPg, FDel, FFl. -/
import Derived.Test.YtoimmapdkapheaaJE
import Derived.Test.YtoimmapdkapheaaJD
import Derived.Test.YtoimmapdkapheaaJA
import Derived.Lib.Slices
import Derived.Deep.RegionLaw
import Derived.Test.YtoimmapdkapheaaJC
import Derived.Lib.Walk
/- What calls tell of a list, in all worlds alike. -/
namespace Go.Proofs.Ytoimmapdkapheaa
set_option maxRecDepth 4000
open Go.RowKit

/-- A list, or an error. -/
def TellW (w : World) (r : Except Int (List AAr)) (e : Ending) (w' : World) : Prop := match r with
  | .ok M => ∃ ao c, e = .returned (.tuple #[.slice ao M.length c, .nilIface]) ∧ Hid (Row rAAr w.heap.size w' (.slice ao M.length c) M) ∧ Hid (Below w.heap.size w w')
  | .error n => e = .returned (.tuple #[.slice none 0 0, .iface 48 (.int .i64 n)]) ∧ Hid (Below w.heap.size w w')
/-- A list of the pages f, if there aren't too many. -/
def FitS (f : Int → Option Pg) (r : Except Int (List AAr)) : Prop := ∃ M, CanA f M ∧ ((M.length ≤ 64 ∧ r = .ok M) ∨ (64 < M.length ∧ r = .error 5))
def fitR (M : List AAr) : Except Int (List AAr) := if M.length ≤ 64 then .ok M else .error 5
theorem LayW.tell {w w' : World} {M : List AAr} {e : Ending} (h : LayW w M e w') : TellW w (fitR M) e w' := by
  have h1 := h.1
  unfold fitR
  by_cases c : M.length ≤ 64
  · rw [if_pos c] at h1 ⊢
    obtain ⟨v, e1, r⟩ := h1
    obtain ⟨ao, k, rfl⟩ := r.form
    exact ⟨ao, k, e1, r, h.2⟩
  · rw [if_neg c] at h1 ⊢
    exact ⟨h1, h.2⟩
theorem fit_s {f : Int → Option Pg} {M : List AAr} (h : CanA f M) : FitS f (fitR M) := by
  unfold fitR
  by_cases c : M.length ≤ 64
  · rw [if_pos c]
    exact ⟨M, h, Or.inl ⟨c, rfl⟩⟩
  · rw [if_neg c]
    exact ⟨M, h, Or.inr ⟨by omega, rfl⟩⟩
def LayS (L : List AAr) (a b : Int) (f : Int → Option Pg) (r : Except Int (List AAr)) : Prop := (¬ (MayA L ∧ SpanA a b) ∧ r = .error 1) ∨ ((MayA L ∧ SpanA a b) ∧ FitS f r)
theorem lay_tell (L : List AAr) (d : AAr) : ∃ r, LayS L d.a d.b (layA (ownA L) d.a d.b (some d.pg)) r ∧ ∀ w ao c, Sn rAAr w ao L → L.length ≤ maxLen → Calls Try.prog 43 #[.slice ao L.length c, av d] w (TellW w r) := by
  by_cases h : MayA L ∧ SpanA d.a d.b
  · refine ⟨fitR (layM L d.a d.b [d]), Or.inr ⟨h, fit_s (can_lay h.1.2 h.2.1 h.2.2.1 h.2.2.2)⟩, fun w ao c hs hm => (lay_any hs hm d).mono fun e w' k => ?_⟩
    rcases k with ⟨_, k⟩ | ⟨⟨k, _⟩, _⟩
    · exact k.tell
    · exact absurd h k
  · refine ⟨.error 1, Or.inl ⟨h, rfl⟩, fun w ao c hs hm => (lay_any hs hm d).mono fun e w' k => ?_⟩
    rcases k with ⟨k, _⟩ | ⟨⟨_, k⟩, hb⟩
    · exact absurd k h
    · exact ⟨k, hb⟩
theorem cut_tell (L : List AAr) (a b : Int) : ∃ r, LayS L a b (layA (ownA L) a b none) r ∧ ∀ w ao c, Sn rAAr w ao L → L.length ≤ maxLen → Calls Try.prog 48 #[.slice ao L.length c, .int .i64 a, .int .i64 b] w (TellW w r) := by
  by_cases h : MayA L ∧ SpanA a b
  · refine ⟨fitR (layM L a b []), Or.inr ⟨h, fit_s (can_cut h.1.2 h.2.1 h.2.2.1)⟩, fun w ao c hs hm => (cut_any hs hm a b).mono fun e w' k => ?_⟩
    rcases k with ⟨_, k⟩ | ⟨⟨k, _⟩, _⟩
    · exact k.tell
    · exact absurd h k
  · refine ⟨.error 1, Or.inl ⟨h, rfl⟩, fun w ao c hs hm => (cut_any hs hm a b).mono fun e w' k => ?_⟩
    rcases k with ⟨k, _⟩ | ⟨⟨_, k⟩, hb⟩
    · exact absurd k h
    · exact ⟨k, hb⟩
def EachS (L : List AAr) (a b : Int) (t : Pg → Pg) (r : Except Int (List AAr)) : Prop :=
  (¬ (MayA L ∧ SpanA a b) ∧ r = .error 1) ∨ ((MayA L ∧ SpanA a b) ∧ (∃ p, a ≤ p ∧ p < b ∧ ownA L p = none) ∧ r = .error 3) ∨ ((MayA L ∧ SpanA a b) ∧ (∀ p, a ≤ p → p < b → ownA L p ≠ none) ∧ FitS (mapA (ownA L) a b t) r)
theorem each_ex (L : List AAr) (a b : Int) (t : Pg → Pg) : ∃ r, EachS L a b t r ∧ ∀ w e w', EachW w L a b t e w' → TellW w r e w' := by
  by_cases h : MayA L ∧ SpanA a b
  · have hc := cov_clip h.1.2 h.2.1 h.2.2.1
    cases hq : covA a b (clipA a b L) with
    | true =>
      refine ⟨fitR (layM L a b ((clipA a b L).map (AAr.turn t))), Or.inr (Or.inr ⟨h, hc.1 hq, fit_s (can_map t h.1.2 h.2.1 h.2.2.1)⟩), fun w e w' k => ?_⟩
      rcases k with ⟨_, _, k⟩ | ⟨_, k, _⟩ | ⟨k, _⟩
      · exact k.tell
      · rw [hq] at k; cases k
      · exact absurd h k
    | false =>
      refine ⟨.error 3, Or.inr (Or.inl ⟨h, ?_, rfl⟩), fun w e w' k => ?_⟩
      · refine Classical.byContradiction fun k => ?_
        have := hc.2 fun p h1 h2 h3 => k ⟨p, h1, h2, h3⟩
        rw [hq] at this
        cases this
      · rcases k with ⟨_, k, _⟩ | ⟨_, _, k, hb⟩ | ⟨k, _⟩
        · rw [hq] at k; cases k
        · exact ⟨k, hb⟩
        · exact absurd h k
  · refine ⟨.error 1, Or.inl ⟨h, rfl⟩, fun w e w' k => ?_⟩
    rcases k with ⟨k, _⟩ | ⟨k, _⟩ | ⟨_, k, hb⟩
    · exact absurd k h
    · exact absurd k h
    · exact ⟨k, hb⟩
theorem change_tell (L : List AAr) (a b : Int) (x y : Bool) : ∃ r, EachS L a b (fun p => (x, y, p.2.2)) r ∧ ∀ w ao c, Sn rAAr w ao L → L.length ≤ maxLen → Calls Try.prog 39 #[.slice ao L.length c, .int .i64 a, .int .i64 b, .agg #[.bool x, .bool y]] w (TellW w r) := by
  obtain ⟨r, h1, h2⟩ := each_ex L a b (fun p => (x, y, p.2.2))
  exact ⟨r, h1, fun w ao c hs hm => (change_any hs hm a b x y).mono fun e w' k => h2 w e w' k⟩
theorem advise_tell (L : List AAr) (a b : Int) (x : Bool) : ∃ r, EachS L a b (fun p => (p.1, p.2.1, x)) r ∧ ∀ w ao c, Sn rAAr w ao L → L.length ≤ maxLen → Calls Try.prog 52 #[.slice ao L.length c, .int .i64 a, .int .i64 b, .bool x] w (TellW w r) := by
  obtain ⟨r, h1, h2⟩ := each_ex L a b (fun p => (p.1, p.2.1, x))
  exact ⟨r, h1, fun w ao c hs hm => (advise_any hs hm a b x).mono fun e w' k => h2 w e w' k⟩
/-- What Find tells. -/
def fndR (r : Except Int AAr) : Value := match r with
  | .ok d => .tuple #[av d, .nilIface]
  | .error n => .tuple #[av AAr.zero, .iface 48 (.int .i64 n)]
def FindS (L : List AAr) (p : Int) (r : Except Int AAr) : Prop := (¬ MayA L ∧ r = .error 1) ∨ (MayA L ∧ ownA L p = none ∧ r = .error 3) ∨ (MayA L ∧ ∃ d, d ∈ L ∧ d.a ≤ p ∧ p < d.b ∧ ownA L p = some d.pg ∧ r = .ok d)
theorem find_tell (L : List AAr) (p : Int) : ∃ r, FindS L p r ∧ ∀ w ao c, Sn rAAr w ao L → L.length ≤ maxLen → Calls Try.prog 54 #[.slice ao L.length c, .int .i64 p] w fun e w' => e = .returned (fndR r) ∧ Hid (Below w.heap.size w w') := by
  by_cases h : MayA L
  · have hf := fnd_own p L
    cases hq : fndA p L with
    | none =>
      rw [hq] at hf
      refine ⟨.error 3, Or.inr (Or.inl ⟨h, hf.symm, rfl⟩), fun w ao c hs hm => (find_any hs hm p).mono fun e w' ⟨k, hb⟩ => ?_⟩
      rcases k with ⟨_, k⟩ | ⟨k, _⟩
      · rw [hq] at k; exact ⟨k, hb⟩
      · exact absurd h k
    | some d =>
      rw [hq] at hf
      obtain ⟨h1, h2, h3⟩ := fnd_mem hq
      refine ⟨.ok d, Or.inr (Or.inr ⟨h, d, h1, h2, h3, hf.symm, rfl⟩), fun w ao c hs hm => (find_any hs hm p).mono fun e w' ⟨k, hb⟩ => ?_⟩
      rcases k with ⟨_, k⟩ | ⟨k, _⟩
      · rw [hq] at k; exact ⟨k, hb⟩
      · exact absurd h k
  · refine ⟨.error 1, Or.inl ⟨h, rfl⟩, fun w ao c hs hm => (find_any hs hm p).mono fun e w' ⟨k, hb⟩ => ?_⟩
    rcases k with ⟨k, _⟩ | ⟨_, k⟩
    · exact absurd k h
    · exact ⟨k, hb⟩
theorem LayS.sure {L : List AAr} {a b : Int} {f : Int → Option Pg} {M : List AAr} (h : LayS L a b f (.ok M)) : MayA L ∧ SpanA a b ∧ CanA f M ∧ M.length ≤ 64 := by
  rcases h with ⟨_, h⟩ | ⟨h, T, h1, h2 | h2⟩
  · cases h
  · obtain ⟨h3, h4⟩ := h2
    cases h4
    exact ⟨h.1, h.2, h1, h3⟩
  · cases h2.2
theorem FitS.uniq {f : Int → Option Pg} {r s : Except Int (List AAr)} (h : FitS f r) (h' : FitS f s) : r = s := by
  obtain ⟨M, m1, m2⟩ := h
  obtain ⟨T, t1, t2⟩ := h'
  obtain rfl := m1.uniq t1
  rcases m2 with ⟨m2, m3⟩ | ⟨m2, m3⟩ <;> rcases t2 with ⟨t2, t3⟩ | ⟨t2, t3⟩
  · rw [m3, t3]
  · omega
  · omega
  · rw [m3, t3]
theorem FitS.congr {f g : Int → Option Pg} {r : Except Int (List AAr)} (h : FitS f r) (e : ∀ p : Int, 0 ≤ p → p < 4096 → f p = g p) : FitS g r := by
  obtain ⟨M, m1, m2⟩ := h
  exact ⟨M, m1.congr e, m2⟩
theorem CanA.may {f : Int → Option Pg} {M : List AAr} (h : CanA f M) (hl : M.length ≤ 64) : MayA M := ⟨hl, h.1⟩
end Go.Proofs.Ytoimmapdkapheaa
/- A law's arguments that are areas by value, through calls. -/
namespace Go.Proofs.Ytoimmapdkapheaa
set_option maxRecDepth 4000
open Go.RowKit

/-- One area by value, as it lies; two. -/
def Bx1 (w W : World) (d : AAr) : Prop := Below w.heap.size w W ∧ Laid W w.heap.size 55 d.arr ∧ True
theorem Bx1.below {w W W' : World} {d : AAr} (h : Bx1 w W d) (hb : Below W.heap.size W W') : Bx1 w W' d := ⟨below_call' h.1 hb, h.2.1.below hb, trivial⟩
theorem Bx1.new (w : World) (d : AAr) : Bx1 w (w.alloc (.cells d.arr 55)) d := ⟨new_below _ _, Laid.new _ _ _, trivial⟩
theorem bx1_self (w : World) (d : AAr) : Hid (Bx1 w (w.alloc (.cells d.arr 55)) d) := Bx1.new w d
def Bx2 (w W : World) (d e : AAr) : Prop := Below w.heap.size w W ∧ Laid W w.heap.size 55 d.arr ∧ Laid W (w.heap.size + 1) 55 e.arr
theorem Bx2.below {w W W' : World} {d e : AAr} (h : Bx2 w W d e) (hb : Below W.heap.size W W') : Bx2 w W' d e := ⟨below_call' h.1 hb, h.2.1.below hb, h.2.2.below hb⟩
theorem Bx2.new (w : World) (d e : AAr) : Bx2 w ((w.alloc (.cells d.arr 55)).alloc (.cells e.arr 55)) d e := by
  refine ⟨below_call' (new_below _ _) (new_below _ _), (Laid.new _ _ _).below (new_below _ _), ?_⟩
  have h := Laid.new (w.alloc (.cells d.arr 55)) 55 e.arr
  rwa [show (w.alloc (.cells d.arr 55)).heap.size = w.heap.size + 1 by simp] at h
theorem lstN {len : Nat} (D : Nat → AAr) : ((List.range len).map D).length = len := by simp

theorem lay_twice {L M : List AAr} {a b : Int} {t : Option Pg} {r : Except Int (List AAr)} (h : LayS L a b (layA (ownA L) a b t) (.ok M)) (h' : LayS M a b (layA (ownA M) a b t) r) : r = .ok M := by
  obtain ⟨h1, h2, h3, h4⟩ := h.sure
  rcases h' with ⟨k, _⟩ | ⟨_, k⟩
  · exact absurd ⟨h3.may h4, h2⟩ k
  · have e : FitS (layA (ownA L) a b t) r := k.congr fun p p0 p1 => by
      rw [← layA_twice (ownA L) a b t p]
      unfold layA
      by_cases c : a ≤ p ∧ p < b
      · rw [if_pos c, if_pos c]
      · rw [if_neg c, if_neg c, if_neg c]
        have := h3.2 p p0 p1
        unfold layA at this
        rwa [if_neg c] at this
    exact e.uniq ⟨M, h3, Or.inl ⟨h4, rfl⟩⟩
theorem cut_all {M : List AAr} (hM : MayA M) {r : Except Int (List AAr)} (h : LayS M 0 4096 (layA (ownA M) 0 4096 none) r) : r = .ok [] := by
  rcases h with ⟨k, _⟩ | ⟨_, T, t1, t2⟩
  · exact absurd ⟨hM, by omega, by omega, by omega⟩ k
  · obtain rfl := can_none t1 fun p p0 p1 => by unfold layA; rw [if_pos ⟨p0, p1⟩]
    rcases t2 with ⟨_, h⟩ | ⟨h, _⟩
    · exact h
    · simp at h
theorem lay_order {L X Y : List AAr} {a b c d : Int} {t u : Option Pg} {r s : Except Int (List AAr)} (hn : ¬ (a < d ∧ c < b)) (hx : LayS L a b (layA (ownA L) a b t) (.ok X)) (hy : LayS L c d (layA (ownA L) c d u) (.ok Y)) (hr : LayS X c d (layA (ownA X) c d u) r) (hs : LayS Y a b (layA (ownA Y) a b t) s) : r = s := by
  obtain ⟨_, x2, x3, x4⟩ := hx.sure
  obtain ⟨_, y2, y3, y4⟩ := hy.sure
  rcases hr with ⟨k, _⟩ | ⟨_, hr⟩
  · exact absurd ⟨x3.may x4, y2⟩ k
  rcases hs with ⟨k, _⟩ | ⟨_, hs⟩
  · exact absurd ⟨y3.may y4, x2⟩ k
  have e1 : FitS (layA (layA (ownA L) a b t) c d u) r := hr.congr fun p p0 p1 => by
    show (if c ≤ p ∧ p < d then u else ownA X p) = if c ≤ p ∧ p < d then u else layA (ownA L) a b t p
    rw [x3.2 p p0 p1]
  have e2 : FitS (layA (layA (ownA L) a b t) c d u) s := hs.congr fun p p0 p1 => by
    rw [layA_comm (ownA L) t u hn p]
    show (if a ≤ p ∧ p < b then t else ownA Y p) = if a ≤ p ∧ p < b then t else layA (ownA L) c d u p
    rw [y3.2 p p0 p1]
  exact e1.uniq e2
theorem LayS.ok_or {L : List AAr} {a b : Int} {f : Int → Option Pg} {r : Except Int (List AAr)} (h : LayS L a b f r) : (∃ M, r = .ok M ∧ M.length ≤ 64) ∨ (r = .error 1) ∨ (r = .error 5) := by
  rcases h with ⟨_, h⟩ | ⟨_, T, _, ⟨h1, h⟩ | ⟨_, h⟩⟩
  · exact Or.inr (Or.inl h)
  · exact Or.inl ⟨T, h, h1⟩
  · exact Or.inr (Or.inr h)
end Go.Proofs.Ytoimmapdkapheaa
/- What was told, and whether it is right, later on. -/
namespace Go.Proofs.Ytoimmapdkapheaa
set_option maxRecDepth 4000
open Go.RowKit

/-- What was told, some time ago. -/
def RgtA (w : World) (M : List AAr) (v u : Value) : Prop := ∃ W w0, LayW W M (.returned (.tuple #[v, u])) w0 ∧ Below w0.heap.size w0 w
theorem RgtA.below {w w' : World} {M : List AAr} {v u : Value} (h : RgtA w M v u) (hb : Below w.heap.size w w') : RgtA w' M v u := by
  obtain ⟨W, w0, h1, h2⟩ := h
  exact ⟨W, w0, h1, below_call' h2 hb⟩
theorem lay_sure {L : List AAr} {d : AAr} (h : MayA L ∧ SpanA d.a d.b) (w : World) (ao : Option Addr) (c : Nat) (hs : Sn rAAr w ao L) (hm : L.length ≤ maxLen) :
    Calls Try.prog 43 #[.slice ao L.length c, av d] w fun e w' => ∃ v u, e = .returned (.tuple #[v, u]) ∧ Hid (RgtA w' (layM L d.a d.b [d]) v u) ∧ Hid (Below w.heap.size w w') := by
  refine (lay_any hs hm d).mono fun e w' k => ?_
  rcases k with ⟨_, k⟩ | ⟨⟨k, _⟩, _⟩
  · obtain ⟨v, u, rfl⟩ := k.pair
    exact ⟨v, u, rfl, ⟨w, w', k, Below.refl _ _⟩, k.2⟩
  · exact absurd h k
theorem cut_sure {L : List AAr} {a b : Int} (h : MayA L ∧ SpanA a b) (w : World) (ao : Option Addr) (c : Nat) (hs : Sn rAAr w ao L) (hm : L.length ≤ maxLen) :
    Calls Try.prog 48 #[.slice ao L.length c, .int .i64 a, .int .i64 b] w fun e w' => ∃ v u, e = .returned (.tuple #[v, u]) ∧ Hid (RgtA w' (layM L a b []) v u) ∧ Hid (Below w.heap.size w w') := by
  refine (cut_any hs hm a b).mono fun e w' k => ?_
  rcases k with ⟨_, k⟩ | ⟨⟨k, _⟩, _⟩
  · obtain ⟨v, u, rfl⟩ := k.pair
    exact ⟨v, u, rfl, ⟨w, w', k, Below.refl _ _⟩, k.2⟩
  · exact absurd h k
theorem lay_step (f : Int → Option Pg) {a k : Nat} (t : Option Pg) (hk : a ≤ k) : pagesA (layA f a ((k + 1 : Nat) : Int) t) = (pagesA (layA f a k t)).set k (pgA t) := by
  rw [pages_set]
  apply pages_congr
  intro p _ _
  unfold layA
  by_cases e : p = (k : Int)
  · rw [if_pos e, if_pos (by omega)]
  · rw [if_neg e]
    by_cases e2 : (a : Int) ≤ p ∧ p < (k : Int)
    · rw [if_pos e2, if_pos (by omega)]
    · rw [if_neg e2, if_neg (by omega)]
theorem lay_none (f : Int → Option Pg) (a : Nat) (t : Option Pg) : pagesA (layA f a a t) = pagesA f := pages_congr fun p _ _ => if_neg (by omega)
theorem LayS.no {L : List AAr} {a b : Int} {f : Int → Option Pg} {r : Except Int (List AAr)} (h : LayS L a b f r) (hn : ¬ (MayA L ∧ SpanA a b)) : r = .error 1 := by
  rcases h with ⟨_, h⟩ | ⟨h, _⟩
  · exact h
  · exact absurd h hn
theorem EachS.no {L : List AAr} {a b : Int} {t : Pg → Pg} {r : Except Int (List AAr)} (h : EachS L a b t r) (hn : ¬ (MayA L ∧ SpanA a b)) : r = .error 1 := by
  rcases h with ⟨_, h⟩ | ⟨h, _⟩ | ⟨h, _⟩
  · exact h
  · exact absurd h hn
  · exact absurd h hn
end Go.Proofs.Ytoimmapdkapheaa
/- A space of the document's turned: its pages, its words; fits. -/
namespace Go.Proofs.Ytoimmapdkapheaa
set_option maxRecDepth 4000
open Go.RowKit

theorem set_at (A B : Sps) (x y : SpV × Sp) : (A ++ x :: B).set A.length y = A ++ y :: B := by simp
theorem set_split {T : Sps} {i : Nat} (hi : i < T.length) (y : SpV × Sp) : ∃ A B, T = A ++ T.getD i zT :: B ∧ T.set i y = A ++ y :: B := by
  obtain ⟨A, B, e, el⟩ := all_at T i hi
  refine ⟨A, B, e, ?_⟩
  have := set_at A B (T.getD i zT) y
  rw [el] at this
  rw [← this]
  exact congrArg (fun l : Sps => l.set i y) e
theorem fm_put (q : Nat) (v : Value) (A B : Sps) (x : SpV × Sp) (T : Sps) (hT : T = A ++ x :: B) :
    ((spT x).and ((Th.box q 29 #[v]).and ((Th.row rSp v (heads T)).and (Th.all (spTs (A ++ B)))))).le (FmX q v T) := fun {F w} h => by
  refine Th.le.trans (and_left _ _ _) (and_mono (Th.le.refl _) (Th.le.trans (and_left _ _ _) (and_mono (Th.le.refl _) ?_))) h
  rw [hT]
  simp only [spTs, List.map_append, List.map_cons]
  exact all_put _ _ _
theorem row_keep {α : Type} {R : Rec α} {F : Nat → Prop} {w w' : World} {g n c : Nat} {l l' : List α} (h : (Th.row R (.slice (some ⟨g, 0, none⟩) n c) l).In F w) (hr : Row R 0 w' (.slice (some ⟨g, 0, none⟩) n c) l') (hk : Keeps w w' (fun x => x = g)) : Bec F w (.row R (.slice (some ⟨g, 0, none⟩) n c) l') w' :=
  ⟨F, fun _ h => Or.inl h, ⟨h.1, hr⟩, hk.mono fun c _ e => (h.1 c).2 (by rw [e]; rfl)⟩
section
variable {F : Nat → Prop} {w W W' : World} {q : Nat} {v : Value} {T : Sps} {i : Nat}
/-- Its words turned. -/
theorem fm_words (h : Bec F w (FmX q v T) W) (hi : i < T.length) {wd' : Nat → Nat → Nat} (hr : Row rW8 0 W' (T.getD i zT).1.vw (wordsA wd')) (hk : Keeps W W' (fun x => x = (T.getD i zT).1.gw)) :
    Bec F w (FmX q v (T.set i ((T.getD i zT).1, ⟨(T.getD i zT).2.f, wd'⟩))) W' := by
  obtain ⟨A, B, e1, e2⟩ := set_split hi ((T.getD i zT).1, (⟨(T.getD i zT).2.f, wd'⟩ : Sp))
  have k1 := h.imp (Th.le.trans (fm_pick q v A B _ T e1) (Th.le.trans (and_assoc _ _ _) (and_left _ _ _)))
  obtain ⟨G, k2, k3⟩ := k1.open
  have k4 := (k3 (row_keep k2 hr hk)).imp (Th.le.trans (and_left _ _ _) (and_assoc' _ _ _))
  have hh : heads T = heads (T.set i ((T.getD i zT).1, ⟨(T.getD i zT).2.f, wd'⟩)) := by
    rw [e2]
    conv => lhs; rw [e1]
    simp [heads]
  rw [hh] at k4
  exact k4.imp (fm_put q v A B ((T.getD i zT).1, ⟨(T.getD i zT).2.f, wd'⟩) _ e2)
/-- Its pages turned: a new row of them. -/
theorem fm_pages {g c gp cp : Nat} {f' : Int → Option Pg} (h : Bec F w ((Th.row rAPg (.slice (some ⟨gp, 0, none⟩) 4096 cp) (pagesA f')).and (FmX q (.slice (some ⟨g, 0, none⟩) T.length c) T)) W) (hi : i < T.length) :
    Bec F w (FmX q (.slice (some ⟨g, 0, none⟩) T.length c) (T.set i ({ (T.getD i zT).1 with gp := gp, cp := cp }, ⟨f', (T.getD i zT).2.wd⟩))) (W.setCell ⟨g, i * 3 + 1, none⟩ (.slice (some ⟨gp, 0, none⟩) 4096 cp)) := by
  obtain ⟨A, B, e1, e2⟩ := set_split hi ({ (T.getD i zT).1 with gp := gp, cp := cp }, (⟨f', (T.getD i zT).2.wd⟩ : Sp))
  -- the heads' row in front
  have k1 := h.imp (Th.le.trans (and_mono (Th.le.refl _) (fm_pick q _ A B _ T e1)) (Th.le.trans (and_mono (Th.le.refl _) (Th.le.trans (and_mono (Th.le.refl _) (and_left _ _ _)) (and_left _ _ _))) (and_left _ _ _)))
  obtain ⟨G, k2, k3⟩ := k1.open
  have hrow := k2.2
  have hx := hrow.put1 i 1 (.slice (some ⟨gp, 0, none⟩) 4096 cp) { (T.getD i zT).1 with gp := gp, cp := cp } (by rw [heads_len]; exact hi) (by decide) (by
    rw [show (heads T).getD i rSp.zero = (T.getD i zT).1 from heads_get T hi]
    rfl)
  have k4 := k3 (row_keep k2 hx (Keeps.set W g _ _))
  have hh : (heads T).set i { (T.getD i zT).1 with gp := gp, cp := cp } = heads (T.set i ({ (T.getD i zT).1 with gp := gp, cp := cp }, ⟨f', (T.getD i zT).2.wd⟩)) := by
    unfold heads
    rw [List.map_set]
  rw [hh] at k4
  -- row' ∗ (rowP' ∗ (spT ∗ (box ∗ rest)))
  have k5 := k4.imp (Th.le.trans (and_mono (Th.le.refl _) (Th.le.trans (and_mono (Th.le.refl _) (and_assoc _ _ _)) (and_left _ _ _))) (and_left _ _ _))
  have k6 := k5.right
  exact k6.imp (Th.le.trans (and_left _ _ _) (Th.le.trans (and_mono (Th.le.refl _) (Th.le.trans (and_left _ _ _) (and_mono (Th.le.refl _) (and_left _ _ _)))) (Th.le.trans (and_assoc' _ _ _) (fm_put q _ A B ({ (T.getD i zT).1 with gp := gp, cp := cp }, ⟨f', (T.getD i zT).2.wd⟩) _ e2))))
theorem set_ok {A : Wd} (hT : FmOk T A) (hi : i < T.length) {y : SpV × Sp} (hy : y.1.n = (T.getD i zT).1.n) (hs : y.2.ok) : FmOk (T.set i y) (A.set y.1.n (some y.2)) := by
  have e := lk_at T hT.nod i hi
  rw [hT.eq] at e
  refine ⟨by rw [lk_set T hT.nod i hi y hy, hT.eq], hT.ok.set (by rw [hy]; exact (hT.ok _ _ e).1) hs, fun a b ha hb h => ?_⟩
  rw [List.length_set] at ha hb
  have key : ∀ k, k < T.length → ((T.set i y).getD k zT).1.n = (T.getD k zT).1.n := fun k hk => by
    simp only [List.getD_eq_getElem?_getD]
    by_cases c : i = k
    · subst c
      rw [List.getElem?_set_self hk, Option.getD_some, hy, List.getD_eq_getElem?_getD]
    · rw [List.getElem?_set_ne c]
  rw [key a ha, key b hb] at h
  exact hT.nod a b ha hb h
end
/-- What fits tells. -/
def FitP (w : World) (g i gp cp : Nat) (M : List AAr) (e : Ending) (w' : World) : Prop :=
  (64 < M.length ∧ e = .returned (.int .i64 5) ∧ Below w.heap.size w w') ∨ (M.length ≤ 64 ∧ e = .returned (.int .i64 0) ∧ ∃ w1, Below w.heap.size w w1 ∧ w' = w1.setCell ⟨g, i * 3 + 1, none⟩ (.slice (some ⟨gp, 0, none⟩) 4096 cp))
set_option maxRecDepth 100000 in
set_option maxHeartbeats 4000000 in
theorem fits_any {w : World} {q g len c i gp cp : Nat} {u : Value} {f : Int → Option Pg} {M : List AAr} (hq : Laid w q 29 #[.slice (some ⟨g, 0, none⟩) len c]) (hi : i < len) (_ : len ≤ 255) (hu : w.cell? ⟨g, i * 3 + 1, none⟩ = some u) (hz : w.frozen? ⟨g, i * 3 + 1, none⟩ = false) (hg : g < w.heap.size) (hp : Sn rAPg w (some ⟨gp, 0, none⟩) (pagesA f)) (hM : CanA f M) :
    Calls Try.prog 50 #[.pointer (some ⟨q, 0, none⟩), .int .i64 i, .slice (some ⟨gp, 0, none⟩) 4096 cp] w (FitP w g i gp cp M) := by
  have hto := to_any (c := cp) hp hM
  have c0 : w.cell? ⟨q, 0, none⟩ = some (.slice (some ⟨g, 0, none⟩) len c) := by rw [hq.cell]; rfl
  have lq := hq.lt
  have hil : (i : Int) < (len : Int) := by omega
  clear hp hM hq
  by_cases h64 : M.length ≤ 64
  · have e64 : decide (M.length ≤ 64) = true := by simpa using h64
    rw [e64] at hto
    have H64 : Hid (M.length ≤ 64) := h64
    clear h64 e64
    go_enter Try.func50, Try.ntmps50
    go_wp2_with fail
    refine hto.mono ?_
    rintro e w1 ⟨v1, rfl, hrow, hb⟩
    obtain ⟨ao, k, rfl⟩ := hrow.form
    have x0 : w1.cell? ⟨q, 0, none⟩ = some (.slice (some ⟨g, 0, none⟩) len c) := (hb.cell lq).trans c0
    have x1 : w1.cell? ⟨g, i * 3 + 1, none⟩ = some u := (hb.cell hg).trans hu
    have x2 : w1.frozen? ⟨g, i * 3 + 1, none⟩ = false := (hb.frozen hg).trans hz
    have HB : Hid (Below w.heap.size w w1) := hb
    clear hrow hb hto c0 hu hz lq hg
    go_wp2
    go_ret
    exact Or.inr ⟨H64.out, rfl, w1, HB.out, rfl⟩
  · have e64 : decide (M.length ≤ 64) = false := by simpa using h64
    rw [e64] at hto
    have H64 : Hid (64 < M.length) := Nat.lt_of_not_le h64
    clear h64 e64
    go_enter Try.func50, Try.ntmps50
    go_wp2_with fail
    refine hto.mono ?_
    rintro e w1 ⟨v1, rfl, hrow, hb⟩
    obtain ⟨ao, k, rfl⟩ := hrow.form
    have HB : Hid (Below w.heap.size w w1) := hb
    clear hrow hb hto c0 hu hz lq hg
    go_wp2
    go_ret
    exact Or.inl ⟨H64.out, rfl, HB.out⟩
end Go.Proofs.Ytoimmapdkapheaa
/- The document's Lay. -/
namespace Go.Proofs.Ytoimmapdkapheaa
set_option maxRecDepth 4000
open Go.RowKit

theorem list_appN {P : Program} {α : Type} {R : Rec α} {s : TypeId} (k : Kin P R s) {ops : Array Oper} {rest : List Oper} {o : Oper} {a : Act} {w : World} {Q : Exit → Act → World → Prop} (hg : o.guard = none) (x y : Operand) (ho : o.op = .call { callee := .builtin .append, args := #[x, y], argTypes := #[s, s] })
    (l : List α) {b : Nat} (hv : a.eval x = .slice (some ⟨b, 0, none⟩) 0 0) (ao : Option Addr) (n c : Nat) (hu : a.eval y = .slice ao n c) (hn : l.length = n) (hp : 0 < n) (hm : n ≤ maxLen) (hb : n * R.bytes ≤ 140737488355328) (hL : Laid w b R.t #[]) (hs : Seen R w ao c l)
    (hK : ∀ c' w', Row R w.heap.size w' (.slice (some ⟨w.heap.size, 0, none⟩) n c') l → Below w.heap.size w w' → wpList P ops Q rest (a.put o.dst (.slice (some ⟨w.heap.size, 0, none⟩) n c')) w') : wpList P ops Q (o :: rest) a w :=
  wpList_plain hg fun _ hK' => by
    have := step_appN (ops := #[]) (E := False) (Q := Q) k hg x y ho l hv ao n c hu hn hp hm hb hL hs fun c' w' h1 h2 => hK' _ _ (hK c' w' h1 h2)
    rwa [if_pos (show Region.wanted o (yielded #[] a.tmps) = true by simp [Region.wanted, hg])] at this
theorem wdZ_self (wd : Nat → Nat → Nat) (a : Int) : wdZ wd a a = wd := by
  funext k i
  unfold wdZ
  rw [if_neg (by omega)]
theorem wdZ_step (wd : Nat → Nat → Nat) {a k : Nat} (h : a ≤ k) : wordsA (wdZ wd a ((k + 1 : Nat) : Int)) = (wordsA (wdZ wd a k)).set k (fun _ => 0) := by
  rw [words_set]
  refine words_congr fun j _ => ?_
  funext i
  unfold wdZ
  by_cases e : j = k
  · rw [if_pos e, if_pos (by omega)]
  · rw [if_neg e]
    by_cases c : (a : Int) ≤ (j : Int) ∧ (j : Int) < (k : Int)
    · rw [if_pos c, if_pos (by omega)]
    · rw [if_neg c, if_neg (by omega)]
theorem getD_set {T : Sps} {i : Nat} (hi : i < T.length) (y : SpV × Sp) : (T.set i y).getD i zT = y := by
  rw [List.getD_eq_getElem?_getD, List.getElem?_set_self hi]
  rfl
theorem set_set (T : Sps) (i : Nat) (y z : SpV × Sp) : (T.set i y).set i z = T.set i z := by simp
/-- While the words are cleared. -/
def LyI (F : Nat → Prop) (w : World) (q : Nat) (v : Value) (T : Sps) (i : Nat) (x : SpV) (f : Int → Option Pg) (wd : Nat → Nat → Nat) (W : World) : Prop := Bec F w (FmX q v (T.set i (x, ⟨f, wd⟩))) W
theorem ly_at {F : Nat → Prop} {w W : World} {q g c : Nat} {T : Sps} {i : Nat} {x : SpV} {f : Int → Option Pg} {wd : Nat → Nat → Nat} (h : LyI F w q (.slice (some ⟨g, 0, none⟩) T.length c) T i x f wd W) (hi : i < T.length) :
    W.cell? ⟨q, 0, none⟩ = some (.slice (some ⟨g, 0, none⟩) T.length c) ∧ W.cell? ⟨g, i * 3 + 2, none⟩ = some x.vw ∧ Row rW8 0 W x.vw (wordsA wd) := by
  obtain ⟨A, h1, -⟩ := h.next
  have hi' : i < (T.set i (x, (⟨f, wd⟩ : Sp))).length := by rw [List.length_set]; exact hi
  obtain ⟨g', c', hv, hlt, hat⟩ := fm_at h1 hi'
  rw [List.length_set] at hv
  cases hv
  rw [getD_set hi] at hat
  have h2 := (fm_see h1 hi').2
  rw [getD_set hi] at h2
  exact ⟨by rw [(FmX.box h1).cell]; rfl, (rSp.at hat).2.2, h2⟩
theorem ly_turn {F : Nat → Prop} {w W W' : World} {q g c : Nat} {T : Sps} {i : Nat} {x : SpV} {f : Int → Option Pg} {wd wd' : Nat → Nat → Nat} (h : LyI F w q (.slice (some ⟨g, 0, none⟩) T.length c) T i x f wd W) (hi : i < T.length) (hr : Row rW8 0 W' x.vw (wordsA wd')) (hk : Keeps W W' (fun y => y = x.gw)) :
    LyI F w q (.slice (some ⟨g, 0, none⟩) T.length c) T i x f wd' W' := by
  have hi' : i < (T.set i (x, (⟨f, wd⟩ : Sp))).length := by rw [List.length_set]; exact hi
  have := fm_words (wd' := wd') h hi' (by rw [getD_set hi]; exact hr) (by rw [getD_set hi]; exact hk)
  rw [getD_set hi, set_set] at this
  exact this
theorem ly_end {F : Nat → Prop} {w W : World} {q : Nat} {v : Value} {T : Sps} {A : Wd} {i : Nat} {x : SpV} {f : Int → Option Pg} {wd : Nat → Nat → Nat} (h : LyI F w q v T i x f wd W) (hT : FmOk T A) (hi : i < T.length) (hx : x.n = (T.getD i zT).1.n) (hs : Sp.ok ⟨f, wd⟩) : Bec F w (FmT q (A.set x.n (some ⟨f, wd⟩))) W :=
  h.imp fun {_ _} k => ⟨(v, T.set i (x, ⟨f, wd⟩)), set_ok hT hi hx hs, k⟩
set_option maxRecDepth 100000 in
set_option maxHeartbeats 16000000 in
theorem rlay_any {F : Nat → Prop} {w : World} {q : Nat} {A A' : Wd} {n a b code : Int} {t : Option Pg} (h : (FmT q A).In F w) (hd : LayD A n a b t code A') : Calls Try.prog 29 #[.pointer (some ⟨q, 0, none⟩), .int .i64 n, .int .i64 a, .int .i64 b, pv (pgA t)] w (FmP F w q A' code) := by
  obtain ⟨d, hdt⟩ : ∃ d, pgA t = d := ⟨_, rfl⟩
  rw [hdt]
  obtain ⟨d0, d1, d2, d3⟩ := d
  unfold pv
  simp only
  have HB0 : Below w.heap.size w (w.alloc (.cells #[.bool d0, .bool d1, .bool d2, .bool d3] 72)) := new_below _ _
  have HX0 : Laid (w.alloc (.cells #[.bool d0, .bool d1, .bool d2, .bool d3] 72)) w.heap.size 72 #[.bool d0, .bool d1, .bool d2, .bool d3] := Laid.new _ _ _
  obtain ⟨F0, h0, hcl⟩ := (In.below h HB0).next
  have HR : Hid (Bec F w (FmT q A) (w.alloc (.cells #[.bool d0, .bool d1, .bool d2, .bool d3] 72))) := In.below h HB0
  clear h
  generalize hW : w.alloc (.cells #[.bool d0, .bool d1, .bool d2, .bool d3] 72) = W at *
  obtain ⟨⟨v, T⟩, hT, h⟩ := h0
  simp only at h hT HR
  have HT0 : Hid (pgA t = ⟨d0, d1, d2, d3⟩) := hdt
  clear hdt
  rcases hd with ⟨h1, rfl, rfl⟩ | ⟨s, hs, hd⟩
  · have hf := rfind_no (n := n) (FmX.box h) (FmX.row h) hT.few (by rw [hT.eq]; exact h1)
    clear h hT h1 hcl HB0 HX0
    go_enter Try.func29, Try.ntmps29
    go_wp2_with fail
    refine hf.mono ?_
    rintro e w1 ⟨rfl, hw⟩
    obtain rfl := hw.symm
    clear hw
    go_wp2
    go_ret
    exact ⟨rfl, HR.out⟩
  · obtain ⟨i, hi, hin, his⟩ := lk_mem (T := T) (by rw [hT.eq]; exact hs)
    have hf := rfind_yes (FmX.box h) (FmX.row h) hT.few hT.nod hi hin
    have hsp := fun w => rspan_any a b w
    have hp1 : ¬ (i : Int) < 0 := by omega
    rcases hd with ⟨hn, rfl, rfl⟩ | ⟨hS, M, hM, hd⟩
    · rw [show spanB a b = false by rw [← Bool.not_eq_true, spanB_iff]; exact hn] at hsp
      clear h hT hcl HB0 HX0 hs hi hin his
      go_enter Try.func29, Try.ntmps29
      go_wp2_with fail
      refine hf.mono ?_
      rintro e w1 ⟨rfl, hw⟩
      obtain rfl := hw.symm
      clear hw
      go_wp2_with fail
      refine (hsp _).mono ?_
      rintro e w1 ⟨rfl, hw⟩
      obtain rfl := hw.symm
      clear hw
      go_wp2
      go_ret
      exact ⟨rfl, HR.out⟩
    · rw [show spanB a b = true by rw [spanB_iff]; exact hS] at hsp
      obtain ⟨ha0, hab, hb4⟩ := hS
      obtain ⟨a, rfl⟩ : ∃ m : Nat, a = m := ⟨a.toNat, by omega⟩
      obtain ⟨b, rfl⟩ : ∃ m : Nat, b = m := ⟨b.toNat, by omega⟩
      obtain ⟨g, c, hv, hlt, hat⟩ := fm_at h hi
      subst hv
      have hsee := (fm_see h hi).1
      have hfew := hT.few
      have c0 : W.cell? ⟨q, 0, none⟩ = some (.slice (some ⟨g, 0, none⟩) T.length c) := by rw [(FmX.box h).cell]; rfl
      obtain ⟨-, c1, -⟩ := rSp.at hat
      have HBX : Hid (Laid W q 29 #[.slice (some ⟨g, 0, none⟩) T.length c]) := FmX.box h
      have HRO : Hid (Row rSp 0 W (.slice (some ⟨g, 0, none⟩) (heads T).length c) (heads T)) := by
        have := FmX.row h
        rwa [heads_len]
      have HBL : Hid (Below w.heap.size w W) := HB0
      have HXD : Hid (Laid W w.heap.size 72 #[.bool d0, .bool d1, .bool d2, .bool d3]) := HX0
      have HI : Hid (i < T.length) := hi
      have HCN : Hid (CanA (layA s.f a b t) M) := hM
      have HFE : Hid (T.length ≤ 255) := hfew
      -- what comes of it
      have HEND : Hid (∀ (gp cp : Nat) (W2 w1 : World), M.length ≤ 64 → Row rAPg W.heap.size W2 (.slice (some ⟨gp, 0, none⟩) 4096 cp) (pagesA (layA s.f a b t)) → Below W.heap.size W W2 → Below W2.heap.size W2 w1 →
          LyI F w q (.slice (some ⟨g, 0, none⟩) T.length c) T i { (T.getD i zT).1 with gp := gp, cp := cp } (layA s.f a b t) (wdZ s.wd a a) (w1.setCell ⟨g, i * 3 + 1, none⟩ (.slice (some ⟨gp, 0, none⟩) 4096 cp))) := fun gp cp W2 w1 h4 hr hb hb2 => by
        have k1 : Bec F0 W ((Th.row rAPg (.slice (some ⟨gp, 0, none⟩) 4096 cp) (pagesA (layA s.f a b t))).and (FmX q (.slice (some ⟨g, 0, none⟩) T.length c) T)) w1 := ((Bec.refl h).new (row_new hr hb)).below hb2
        have k2 := hcl (fm_pages k1 hi)
        rw [his] at k2
        rw [wdZ_self]
        exact k2
      have HFIN : Hid (∀ (gp cp : Nat) (W' : World), M.length ≤ 64 → LyI F w q (.slice (some ⟨g, 0, none⟩) T.length c) T i { (T.getD i zT).1 with gp := gp, cp := cp } (layA s.f a b t) (wdZ s.wd a b) W' → Bec F w (FmT q (A.set n (some ⟨layA s.f a b t, wdZ s.wd a b⟩))) W') := fun gp cp W' h4 hly => by
        have hso : s.ok := (hT.ok n s hs).2
        have := ly_end hly hT hi rfl (layS_ok hso ⟨ha0, hab, hb4⟩ hM h4)
        rwa [show ({ (T.getD i zT).1 with gp := gp, cp := cp } : SpV).n = n from hin] at this
      rw [his] at hsee
      generalize hx : (T.getD i zT).1 = x at *
      obtain ⟨xn, gp0, cp0, gw0, cw0⟩ := x
      unfold SpV.vp at c1 hsee
      try simp only at c1 hsee
      have hil : (i : Int) < (T.length : Int) := by omega
      have hi0 : (0 : Int) ≤ (i : Int) := by omega
      have hE1 : Laid (W.alloc (.cells #[] 72)) W.heap.size 72 #[] := Laid.new _ _ _
      have hs1 : Seen rAPg (W.alloc (.cells #[] 72)) (some ⟨gp0, 0, none⟩) cp0 (pagesA s.f) := hsee.seen.2.below (new_below _ _)
      have hc1 : ∀ u, (W.alloc u).cell? ⟨q, 0, none⟩ = some (.slice (some ⟨g, 0, none⟩) T.length c) := fun u => (cell_alloc_old HBX.out.lt 0 u).trans c0
      have hc2 : ∀ u, (W.alloc u).cell? ⟨g, i * 3 + 1, none⟩ = some (.slice (some ⟨gp0, 0, none⟩) 4096 cp0) := fun u => (cell_alloc_old hlt _ u).trans c1
      have HC1 : Hid (W.cell? ⟨g, i * 3 + 1, none⟩ = some (.slice (some ⟨gp0, 0, none⟩) 4096 cp0) ∧ g < W.heap.size) := ⟨c1, hlt⟩
      clear h hT hcl HB0 HX0 hs hi hin his hat hM hsee hx hfew c0 c1 hlt
      generalize hTL : T.length = len at *
      have HTL : Hid (T.length = len) := hTL
      clear hTL
      go_enter Try.func29, Try.ntmps29
      go_wp2_with fail
      refine hf.mono ?_
      rintro e w1 ⟨rfl, hw⟩
      obtain rfl := hw.symm
      clear hw
      go_wp2_with fail
      refine (hsp _).mono ?_
      rintro e w1 ⟨rfl, hw⟩
      obtain rfl := hw.symm
      clear hw hf hsp hW
      go_wp2_with (at_builtin; refine list_appN APg.kin rfl _ _ rfl (pagesA s.f) rfl (some ⟨gp0, 0, none⟩) 4096 cp0 rfl (pages_len _) (by decide) (by unfold maxLen; omega) (by decide) hE1 hs1 ?_)
      intro cp W2 hrow hb2
      have HP0 : Hid (Row rAPg W.heap.size W2 (.slice (some ⟨W.heap.size + 1, 0, none⟩) 4096 cp) (pagesA (layA s.f a a t))) := by
        rw [lay_none]
        have h0 : Row rAPg (W.heap.size + 1) W2 (.slice (some ⟨W.heap.size + 1, 0, none⟩) 4096 cp) (pagesA s.f) := by simpa using hrow
        exact h0.lower (by omega)
      have HB2 : Hid (Below W.heap.size W W2) := (new_below W _).trans (hb2.mono (by simp))
      have hab' : a < b := by omega
      clear hrow hb2 hE1 hs1 hc1 hc2
      go_wp2
      go_loopw [14] (fun iv X => ∃ k : Nat, a ≤ k ∧ k ≤ b ∧ iv = .int .i64 k ∧ Hid (Row rAPg W.heap.size X (.slice (some ⟨W.heap.size + 1, 0, none⟩) 4096 cp) (pagesA (layA s.f a k t))) ∧ Hid (Below W.heap.size W X)) (fun iv _ => b - (intOf iv).toNat)
      case atStart => exact ⟨a, Nat.le_refl _, Nat.le_of_lt hab', rfl, HP0, HB2⟩
      case round =>
        obtain ⟨k, hk1, hk2, rfl, HPk, HBk⟩ := hrel
        clear HP0 HB2
        by_cases hkb : k < b
        · have hkz : (k : Int) < (b : Int) := by omega
          have hk4 : (k : Int) < 4096 := by omega
          have hkl : k < (pagesA (layA s.f a k t)).length := by rw [pages_len]; omega
          obtain ⟨g', e', -, -, hgw, -, -, hatk⟩ := HPk.out.at hkl
          cases e'
          obtain ⟨p0, p1, p2, p3⟩ := APg.at hatk
          simp only [show rAPg.n = 4 from rfl] at p0 p1 p2 p3
          have hfz := fun o => HPk.out.frozen o
          have hxd := HXD.out.below HBk.out
          have z0 : wr.cell? ⟨w.heap.size, 0, none⟩ = some (.bool d0) := by rw [hxd.cell]; rfl
          have z1 : wr.cell? ⟨w.heap.size, 1, none⟩ = some (.bool d1) := by rw [hxd.cell]; rfl
          have z2 : wr.cell? ⟨w.heap.size, 2, none⟩ = some (.bool d2) := by rw [hxd.cell]; rfl
          have z3 : wr.cell? ⟨w.heap.size, 3, none⟩ = some (.bool d3) := by rw [hxd.cell]; rfl
          have HNP : Hid (Row rAPg W.heap.size (wr.setCells (W.heap.size + 1) (k * 4) [.bool d0, .bool d1, .bool d2, .bool d3]) (.slice (some ⟨W.heap.size + 1, 0, none⟩) 4096 cp) (pagesA (layA s.f a ((k + 1 : Nat) : Int) t))) := by
            rw [lay_step _ _ hk1, HT0.out]
            exact HPk.out.put k ⟨d0, d1, d2, d3⟩ hkl
          have HNB : Hid (Below W.heap.size W (wr.setCells (W.heap.size + 1) (k * 4) [.bool d0, .bool d1, .bool d2, .bool d3])) := HBk.out.trans ((Keeps.sets [.bool d0, .bool d1, .bool d2, .bool d3] wr (W.heap.size + 1) (k * 4)).below HBk.out.size fun c _ e => by rw [e]; omega)
          clear hatk HPk HBk hkl hxd
          go_wp2
          go_roundw
          case rel => exact ⟨k + 1, by omega, by omega, by go_num, HNP, HNB⟩
          case measure => simp only [intOf]; omega
        · obtain rfl : k = b := by omega
          have hfit := fits_any (cp := cp) (HBX.out.below HBk.out) (i := i) HI.out HFE.out ((HBk.out.cell HC1.out.2).trans HC1.out.1) ((HRO.out.below HBk.out).frozen _) (Nat.lt_of_lt_of_le HC1.out.2 HBk.out.size) HPk.out.sn HCN.out
          go_wp2_with fail
          refine hfit.mono ?_
          intro e w3 hfp
          rcases hfp with ⟨h64, rfl, hb⟩ | ⟨h64, rfl, w4, hb, rfl⟩
          · have HE : Hid (FmP F w q A' code (.returned (.int .i64 5)) w3) := by
              rcases hd with ⟨-, rfl, rfl⟩ | ⟨h, -⟩
              · exact ⟨rfl, HR.out.below (below_call' HBk.out hb)⟩
              · omega
            clear hfit hb h64 HPk HBk hd
            go_wp2
            go_loopw [16] (fun iv X => X = w3 ∧ iv = .int .i64 a) (fun _ _ => 0)
            case atStart => exact ⟨rfl, rfl⟩
            case round =>
              obtain ⟨rfl, rfl⟩ := hrel
              go_wp2
              go_ret
              exact HE.out
          · have HLY : Hid (LyI F w q (.slice (some ⟨g, 0, none⟩) len c) T i ⟨xn, W.heap.size + 1, cp, gw0, cw0⟩ (layA s.f a k t) (wdZ s.wd a a) (w4.setCell ⟨g, i * 3 + 1, none⟩ (.slice (some ⟨W.heap.size + 1, 0, none⟩) 4096 cp))) := HEND.out _ _ _ _ h64 HPk.out HBk.out hb
            have HE : Hid (∀ X, LyI F w q (.slice (some ⟨g, 0, none⟩) len c) T i ⟨xn, W.heap.size + 1, cp, gw0, cw0⟩ (layA s.f a k t) (wdZ s.wd a k) X → FmP F w q A' code (.returned (.int .i64 0)) X) := fun X hX => by
              rcases hd with ⟨h, -⟩ | ⟨-, rfl, rfl⟩
              · omega
              · exact ⟨rfl, HFIN.out _ _ _ h64 hX⟩
            clear hfit hb h64 HPk HBk hd HEND HFIN
            rw [← HTL.out] at HLY HE
            go_wp2
            go_loopw [16] (fun iv X => ∃ m : Nat, a ≤ m ∧ m ≤ k ∧ iv = .int .i64 m ∧ Hid (LyI F w q (.slice (some ⟨g, 0, none⟩) T.length c) T i ⟨xn, W.heap.size + 1, cp, gw0, cw0⟩ (layA s.f a k t) (wdZ s.wd a m) X)) (fun iv _ => k - (intOf iv).toNat)
            case atStart => exact ⟨a, Nat.le_refl _, Nat.le_of_lt hab', rfl, HLY⟩
            case round =>
              obtain ⟨m, hm1, hm2, rfl, HLm⟩ := hrel
              clear HLY
              by_cases hmk : m < k
              · have hmz : (m : Int) < (k : Int) := by omega
                have hm4 : (m : Int) < 4096 := by omega
                obtain ⟨y0, y2, yr⟩ := ly_at HLm.out (by rw [HTL.out]; exact HI.out)
                rw [HTL.out] at y0
                unfold SpV.vw at y2 yr
                simp only at y2 yr
                have hkl : m < (wordsA (wdZ s.wd a m)).length := by rw [words_len]; omega
                obtain ⟨g', e', -, -, hgw, -, -, hatk⟩ := yr.at hkl
                cases e'
                have u0 := rW8.at hatk (j := 0) (by decide)
                have u1 := rW8.at hatk (j := 1) (by decide)
                have u2 := rW8.at hatk (j := 2) (by decide)
                have u3 := rW8.at hatk (j := 3) (by decide)
                have u4 := rW8.at hatk (j := 4) (by decide)
                have u5 := rW8.at hatk (j := 5) (by decide)
                have u6 := rW8.at hatk (j := 6) (by decide)
                have u7 := rW8.at hatk (j := 7) (by decide)
                simp only [show rW8.n = 8 from rfl, Nat.add_zero] at u0 u1 u2 u3 u4 u5 u6 u7
                have hfz := fun o => yr.frozen o
                have HNL : Hid (LyI F w q (.slice (some ⟨g, 0, none⟩) T.length c) T i ⟨xn, W.heap.size + 1, cp, gw0, cw0⟩ (layA s.f a k t) (wdZ s.wd a ((m + 1 : Nat) : Int)) (wr.setCells gw0 (m * 8) [.int .u64 0, .int .u64 0, .int .u64 0, .int .u64 0, .int .u64 0, .int .u64 0, .int .u64 0, .int .u64 0])) := by
                  refine ly_turn HLm.out (by rw [HTL.out]; exact HI.out) ?_ (Keeps.sets _ wr gw0 (m * 8))
                  rw [wdZ_step _ hm1]
                  exact yr.put m (fun _ => 0) hkl
                clear hatk HLm yr hkl
                generalize (wordsA (wdZ s.wd a m)).getD m rW8.zero = ws at *
                go_wp2
                go_roundw
                case rel => exact ⟨m + 1, by omega, by omega, by go_num, HNL⟩
                case measure => simp only [intOf]; omega
              · obtain rfl : m = k := by omega
                have HZ := HE.out _ HLm.out
                have HZ' : Hid _ := HZ
                clear HZ
                go_wp2
                go_ret
                exact HZ'.out
end Go.Proofs.Ytoimmapdkapheaa
/- The document's Change. -/
namespace Go.Proofs.Ytoimmapdkapheaa
set_option maxRecDepth 4000
open Go.RowKit

set_option maxRecDepth 100000 in
set_option maxHeartbeats 16000000 in
theorem rchg_any {F : Nat → Prop} {w : World} {q : Nat} {A A' : Wd} {n a b code : Int} {r x y z : Bool} (h : (FmT q A).In F w) (hd : ChgD A n a b (chgT r x y z) code A') :
    Calls Try.prog 30 #[.pointer (some ⟨q, 0, none⟩), .int .i64 n, .int .i64 a, .int .i64 b, .bool r, .agg #[.bool x, .bool y], .bool z] w (FmP F w q A' code) := by
  have HB0 : Below w.heap.size w (w.alloc (.cells #[.bool x, .bool y] 31)) := new_below _ _
  have HX0 : Laid (w.alloc (.cells #[.bool x, .bool y] 31)) w.heap.size 31 #[.bool x, .bool y] := Laid.new _ _ _
  obtain ⟨F0, h0, hcl⟩ := (In.below h HB0).next
  have HR : Hid (Bec F w (FmT q A) (w.alloc (.cells #[.bool x, .bool y] 31))) := In.below h HB0
  clear h
  generalize hW : w.alloc (.cells #[.bool x, .bool y] 31) = W at *
  obtain ⟨⟨v, T⟩, hT, h⟩ := h0
  simp only at h hT HR
  obtain ⟨tr, htr⟩ : ∃ tr, tr = chgT r x y z := ⟨_, rfl⟩
  rw [← htr] at hd
  have HTR : Hid (tr = chgT r x y z) := htr
  clear htr
  rcases hd with ⟨h1, rfl, rfl⟩ | ⟨s, hs, hd⟩
  · have hf := rfind_no (n := n) (FmX.box h) (FmX.row h) hT.few (by rw [hT.eq]; exact h1)
    clear h hT h1 hcl HB0 HX0
    go_enter Try.func30, Try.ntmps30
    go_wp2_with fail
    refine hf.mono ?_
    rintro e w1 ⟨rfl, hw⟩
    obtain rfl := hw.symm
    clear hw
    go_wp2
    go_ret
    exact ⟨rfl, HR.out⟩
  · obtain ⟨i, hi, hin, his⟩ := lk_mem (T := T) (by rw [hT.eq]; exact hs)
    have hf := rfind_yes (FmX.box h) (FmX.row h) hT.few hT.nod hi hin
    have hsp := fun w => rspan_any a b w
    have hp1 : ¬ (i : Int) < 0 := by omega
    by_cases hS : SpanA a b
    · have hd2 : (∃ p, a ≤ p ∧ p < b ∧ s.f p = none) ∧ code = 3 ∧ A' = A ∨ (∀ p, a ≤ p → p < b → s.f p ≠ none) ∧ ∃ M, CanA (mapA s.f a b tr) M ∧ ((64 < M.length ∧ code = 5 ∧ A' = A) ∨ (M.length ≤ 64 ∧ code = 0 ∧ A' = A.set n (some ⟨mapA s.f a b tr, s.wd⟩))) := by
        rcases hd with ⟨h, _⟩ | ⟨_, h⟩ | ⟨_, h⟩
        · exact absurd hS h
        · exact Or.inl h
        · exact Or.inr h
      clear hd
      rw [show spanB a b = true by rw [spanB_iff]; exact hS] at hsp
      obtain ⟨ha0, hab, hb4⟩ := hS
      obtain ⟨a, rfl⟩ : ∃ m : Nat, a = m := ⟨a.toNat, by omega⟩
      obtain ⟨b, rfl⟩ : ∃ m : Nat, b = m := ⟨b.toNat, by omega⟩
      obtain ⟨g, c, hv, hlt, hat⟩ := fm_at h hi
      subst hv
      have hsee := (fm_see h hi).1
      have hfew := hT.few
      have c0 : W.cell? ⟨q, 0, none⟩ = some (.slice (some ⟨g, 0, none⟩) T.length c) := by rw [(FmX.box h).cell]; rfl
      obtain ⟨-, c1, -⟩ := rSp.at hat
      have HBX : Hid (Laid W q 29 #[.slice (some ⟨g, 0, none⟩) T.length c]) := FmX.box h
      have HRO : Hid (Row rSp 0 W (.slice (some ⟨g, 0, none⟩) (heads T).length c) (heads T)) := by
        have := FmX.row h
        rwa [heads_len]
      have HXD : Hid (Laid W w.heap.size 31 #[.bool x, .bool y]) := HX0
      have HI : Hid (i < T.length) := hi
      have HFE : Hid (T.length ≤ 255) := hfew
      have HFIN : Hid (∀ (M : List AAr) (gp cp : Nat) (W2 w1 : World), CanA (mapA s.f a b tr) M → M.length ≤ 64 → Row rAPg W.heap.size W2 (.slice (some ⟨gp, 0, none⟩) 4096 cp) (pagesA (mapA s.f a b tr)) → Below W.heap.size W W2 → Below W2.heap.size W2 w1 →
          Bec F w (FmT q (A.set n (some ⟨mapA s.f a b tr, s.wd⟩))) (w1.setCell ⟨g, i * 3 + 1, none⟩ (.slice (some ⟨gp, 0, none⟩) 4096 cp))) := fun M gp cp W2 w1 hM h4 hr hb hb2 => by
        have k1 : Bec F0 W ((Th.row rAPg (.slice (some ⟨gp, 0, none⟩) 4096 cp) (pagesA (mapA s.f a b tr))).and (FmX q (.slice (some ⟨g, 0, none⟩) T.length c) T)) w1 := ((Bec.refl h).new (row_new hr hb)).below hb2
        have k2 := hcl (fm_pages k1 hi)
        rw [his] at k2
        have hso : s.ok := (hT.ok n s hs).2
        have := ly_end (x := { (T.getD i zT).1 with gp := gp, cp := cp }) (f := mapA s.f a b tr) (wd := s.wd) k2 hT hi rfl (mapS_ok hso hM h4)
        rwa [show ({ (T.getD i zT).1 with gp := gp, cp := cp } : SpV).n = n from hin] at this
      rw [his] at hsee
      generalize hx : (T.getD i zT).1 = xx at *
      obtain ⟨xn, gp0, cp0, gw0, cw0⟩ := xx
      unfold SpV.vp at c1 hsee
      try simp only at c1 hsee
      have hil : (i : Int) < (T.length : Int) := by omega
      have hi0 : (0 : Int) ≤ (i : Int) := by omega
      have hE1 : Laid (W.alloc (.cells #[] 72)) W.heap.size 72 #[] := Laid.new _ _ _
      have hs1 : Seen rAPg (W.alloc (.cells #[] 72)) (some ⟨gp0, 0, none⟩) cp0 (pagesA s.f) := hsee.seen.2.below (new_below _ _)
      have hc1 : ∀ u, (W.alloc u).cell? ⟨q, 0, none⟩ = some (.slice (some ⟨g, 0, none⟩) T.length c) := fun u => (cell_alloc_old HBX.out.lt 0 u).trans c0
      have hc2 : ∀ u, (W.alloc u).cell? ⟨g, i * 3 + 1, none⟩ = some (.slice (some ⟨gp0, 0, none⟩) 4096 cp0) := fun u => (cell_alloc_old hlt _ u).trans c1
      have HC1 : Hid (W.cell? ⟨g, i * 3 + 1, none⟩ = some (.slice (some ⟨gp0, 0, none⟩) 4096 cp0) ∧ g < W.heap.size) := ⟨c1, hlt⟩
      clear h hT hcl HB0 HX0 hs hi hin his hat hsee hx hfew c0 c1 hlt
      generalize hTL : T.length = len at *
      clear hTL
      go_enter Try.func30, Try.ntmps30
      go_wp2_with fail
      refine hf.mono ?_
      rintro e w1 ⟨rfl, hw⟩
      obtain rfl := hw.symm
      clear hw
      go_wp2_with fail
      refine (hsp _).mono ?_
      rintro e w1 ⟨rfl, hw⟩
      obtain rfl := hw.symm
      clear hw hf hsp hW
      go_wp2_with (at_builtin; refine list_appN APg.kin rfl _ _ rfl (pagesA s.f) rfl (some ⟨gp0, 0, none⟩) 4096 cp0 rfl (pages_len _) (by decide) (by unfold maxLen; omega) (by decide) hE1 hs1 ?_)
      intro cp W2 hrow hb2
      have hP0 : Row rAPg (W.heap.size + 1) W2 (.slice (some ⟨W.heap.size + 1, 0, none⟩) 4096 cp) (pagesA s.f) := by simpa using hrow
      have HB2 : Hid (Below W.heap.size W W2) := (new_below W _).trans (hb2.mono (by simp))
      have hch := rchange_any (hP0.lower (B' := W.heap.size) (by omega)) a b (by omega) (by omega) r x y z
      rw [← HTR.out] at hch
      have hxd := HXD.out.below HB2.out
      have z0 : W2.cell? ⟨w.heap.size, 0, none⟩ = some (.bool x) := by rw [hxd.cell]; rfl
      have z1 : W2.cell? ⟨w.heap.size, 1, none⟩ = some (.bool y) := by rw [hxd.cell]; rfl
      clear hrow hb2 hE1 hs1 hc1 hc2 hP0 hxd
      go_wp2_with fail
      refine hch.mono ?_
      intro e w3 hcp
      rcases hcp with ⟨hall, rfl, hr3, hk3⟩ | ⟨hex, rfl, hr3, hk3⟩
      · have HB3 : Hid (Below W.heap.size W w3) := HB2.out.trans (hk3.below HB2.out.size fun c _ e => by rw [e]; omega)
        obtain ⟨M, hM, hd3⟩ : ∃ M, CanA (mapA s.f a b tr) M ∧ ((64 < M.length ∧ code = 5 ∧ A' = A) ∨ (M.length ≤ 64 ∧ code = 0 ∧ A' = A.set n (some ⟨mapA s.f a b tr, s.wd⟩))) := by
          rcases hd2 with ⟨⟨p, p1, p2, p3⟩, _⟩ | ⟨_, h⟩
          · exact absurd p3 (hall p p1 p2)
          · exact h
        have hfit := fits_any (cp := cp) (HBX.out.below HB3.out) (i := i) HI.out HFE.out ((HB3.out.cell HC1.out.2).trans HC1.out.1) ((HRO.out.below HB3.out).frozen _) (Nat.lt_of_lt_of_le HC1.out.2 HB3.out.size) hr3.sn hM
        have HP3 : Hid (Row rAPg W.heap.size w3 (.slice (some ⟨W.heap.size + 1, 0, none⟩) 4096 cp) (pagesA (mapA s.f a b tr))) := hr3
        have HM : Hid _ := hM
        have HD3 : Hid _ := hd3
        clear hch hall hr3 hk3 hd2 hM hd3 z0 z1 HB2
        go_wp2_with fail
        refine hfit.mono ?_
        intro e w4 hfp
        have HE : Hid (FmP F w q A' code e w4) := by
          rcases hfp with ⟨h64, rfl, hb⟩ | ⟨h64, rfl, w5, hb, rfl⟩
          · rcases HD3.out with ⟨-, rfl, rfl⟩ | ⟨h, -⟩
            · exact ⟨rfl, HR.out.below (below_call' HB3.out hb)⟩
            · omega
          · rcases HD3.out with ⟨h, -⟩ | ⟨-, rfl, rfl⟩
            · omega
            · exact ⟨rfl, HFIN.out M _ _ _ _ HM.out h64 HP3.out HB3.out hb⟩
        have hee : e = .returned (.int .i64 code) := HE.out.1
        subst hee
        clear hfp hfit
        go_wp2
        go_ret
        exact HE.out
      · have HB3 : Hid (Below W.heap.size W w3) := HB2.out.trans (hk3.below HB2.out.size fun c _ e => by rw [e]; omega)
        have HE : Hid (FmP F w q A' code (.returned (.int .i64 3)) w3) := by
          rcases hd2 with ⟨_, rfl, rfl⟩ | ⟨h, _⟩
          · exact ⟨rfl, HR.out.below HB3.out⟩
          · obtain ⟨p, p1, p2, p3⟩ := hex
            exact absurd p3 (h p p1 p2)
        clear hch hex hr3 hk3 hd2 z0 z1
        go_wp2
        go_ret
        exact HE.out
    · have hd2 : code = 1 ∧ A' = A := by
        rcases hd with ⟨_, h⟩ | ⟨h, _⟩ | ⟨h, _⟩
        · exact h
        · exact absurd h hS
        · exact absurd h hS
      obtain ⟨rfl, rfl⟩ := hd2
      rw [show spanB a b = false by rw [← Bool.not_eq_true, spanB_iff]; exact hS] at hsp
      clear h hT hcl HB0 HX0 hs hi hin his hd
      go_enter Try.func30, Try.ntmps30
      go_wp2_with fail
      refine hf.mono ?_
      rintro e w1 ⟨rfl, hw⟩
      obtain rfl := hw.symm
      clear hw
      go_wp2_with fail
      refine (hsp _).mono ?_
      rintro e w1 ⟨rfl, hw⟩
      obtain rfl := hw.symm
      clear hw
      go_wp2
      go_ret
      exact ⟨rfl, HR.out⟩
end Go.Proofs.Ytoimmapdkapheaa
/- The document's At. -/
namespace Go.Proofs.Ytoimmapdkapheaa
set_option maxRecDepth 4000
open Go.RowKit

/-- The cells on the way to a page. -/
theorem at_cells {F : Nat → Prop} {w : World} {q : Nat} {v : Value} {T : Sps} (h : (FmX q v T).In F w) {i : Nat} (hi : i < T.length) {pg : Int} (h0 : 0 ≤ pg) (h1 : pg < 4096) :
    ∃ g c gp cp, w.cell? ⟨q, 0, none⟩ = some (.slice (some ⟨g, 0, none⟩) T.length c) ∧ w.cell? ⟨g, i * 3 + 1, none⟩ = some (.slice (some ⟨gp, 0, none⟩) 4096 cp) ∧ w.cell? ⟨gp, pg.toNat * 4, none⟩ = some (.bool ((T.getD i zT).2.f pg).isSome) := by
  obtain ⟨g, c, hv, hlt, hat⟩ := fm_at h hi
  obtain ⟨s1, -⟩ := fm_see h hi
  obtain ⟨k, rfl⟩ : ∃ k : Nat, pg = k := ⟨pg.toNat, by omega⟩
  obtain ⟨g', e', -, -, -, -, -, hat2⟩ := s1.at (show k < _ by rw [pages_len]; omega)
  cases e'
  obtain ⟨p0, -⟩ := APg.at hat2
  rw [show rAPg.zero = APg.zero from rfl, pages_get _ (by omega), pgA_is] at p0
  refine ⟨g, c, (T.getD i zT).1.gp, (T.getD i zT).1.cp, by rw [(FmX.box h).cell, hv]; rfl, (rSp.at hat).2.1, ?_⟩
  simpa [rAPg] using p0
/-- What At tells: the space's place among the others, or an error's number. -/
def AtP (w : World) (T : Sps) (n : Int) (code : Int) (e : Ending) (w' : World) : Prop :=
  w' = w ∧ ((code ≠ 0 ∧ e = .returned (.tuple #[.int .i64 0, .int .i64 code])) ∨ (code = 0 ∧ ∃ i : Nat, i < T.length ∧ (T.getD i zT).1.n = n ∧ e = .returned (.tuple #[.int .i64 i, .int .i64 0])))
set_option maxRecDepth 100000 in
set_option maxHeartbeats 8000000 in
theorem rat_any {F : Nat → Prop} {w : World} {q : Nat} {v : Value} {T : Sps} {A : Wd} {n pg j code : Int} (h : (FmX q v T).In F w) (hT : FmOk T A) (hd : AtD A n pg j code) :
    Calls Try.prog 33 #[.pointer (some ⟨q, 0, none⟩), .int .i64 n, .int .i64 pg, .int .i64 j] w (AtP w T n code) := by
  rcases hd with ⟨h1, rfl⟩ | ⟨s, hs, hd⟩
  · have hf := rfind_no (n := n) (FmX.box h) (FmX.row h) hT.few (by rw [hT.eq]; exact h1)
    clear h hT h1
    go_enter Try.func33, Try.ntmps33
    go_wp2_with fail
    refine hf.mono ?_
    rintro e w1 ⟨rfl, hw⟩
    obtain rfl := hw.symm
    clear hw
    go_wp2
    go_ret2
    exact ⟨rfl, Or.inl ⟨by decide, rfl⟩⟩
  · obtain ⟨i, hi, hin, his⟩ := lk_mem (T := T) (by rw [hT.eq]; exact hs)
    have hf := rfind_yes (FmX.box h) (FmX.row h) hT.few hT.nod hi hin
    have hp1 : ¬ (i : Int) < 0 := by omega
    rcases hd with ⟨h1, rfl⟩ | ⟨h1, h2, h3, rfl⟩ | ⟨h1, h2, h3, rfl⟩
    · clear h hT hs hi hin his
      by_cases h0 : j < 0
      · clear h1
        go_enter Try.func33, Try.ntmps33
        go_wp2_with fail
        refine hf.mono ?_
        rintro e w1 ⟨rfl, hw⟩
        obtain rfl := hw.symm
        clear hw
        go_wp2
        go_ret2
        exact ⟨rfl, Or.inl ⟨by decide, rfl⟩⟩
      · have h7 : 7 < j := by omega
        clear h1
        go_enter Try.func33, Try.ntmps33
        go_wp2_with fail
        refine hf.mono ?_
        rintro e w1 ⟨rfl, hw⟩
        obtain rfl := hw.symm
        clear hw
        go_wp2
        go_ret2
        exact ⟨rfl, Or.inl ⟨by decide, rfl⟩⟩
    · have hj0 : ¬ j < 0 := by omega
      have hj7 : ¬ 7 < j := by omega
      by_cases hpg : pg < 0
      · clear h hT hs hi hin his h3 h1 h2
        go_enter Try.func33, Try.ntmps33
        go_wp2_with fail
        refine hf.mono ?_
        rintro e w1 ⟨rfl, hw⟩
        obtain rfl := hw.symm
        clear hw
        go_wp2
        go_ret2
        exact ⟨rfl, Or.inl ⟨by decide, rfl⟩⟩
      · by_cases hpg2 : 4095 < pg
        · clear h hT hs hi hin his h3 h1 h2
          go_enter Try.func33, Try.ntmps33
          go_wp2_with fail
          refine hf.mono ?_
          rintro e w1 ⟨rfl, hw⟩
          obtain rfl := hw.symm
          clear hw
          go_wp2
          go_ret2
          exact ⟨rfl, Or.inl ⟨by decide, rfl⟩⟩
        · obtain ⟨g, c, gp, cp, c0, c1, c2⟩ := at_cells (pg := pg) h hi (by omega) (by omega)
          rw [his, h3, Option.isSome_none] at c2
          obtain ⟨k, rfl⟩ : ∃ k : Nat, pg = k := ⟨pg.toNat, by omega⟩
          simp only [Int.toNat_natCast] at c2
          have hil : (i : Int) < (T.length : Int) := by omega
          have hk4 : (k : Int) < 4096 := by omega
          have hk9 : ¬ 4095 < (k : Int) := hpg2
          clear h hT hs hi hin his h3 h1 h2
          go_enter Try.func33, Try.ntmps33
          go_wp2_with fail
          refine hf.mono ?_
          rintro e w1 ⟨rfl, hw⟩
          obtain rfl := hw.symm
          clear hw
          go_wp2
          go_ret2
          exact ⟨rfl, Or.inl ⟨by decide, rfl⟩⟩
    · have hj0 : ¬ j < 0 := by omega
      have hj7 : ¬ 7 < j := by omega
      have hpg : 0 ≤ pg ∧ pg < 4096 := by
        by_cases c : 0 ≤ pg ∧ pg < 4096
        · exact c
        · exact absurd ((hT.ok n s hs).2.out pg (by omega)) h3
      obtain ⟨g, c, gp, cp, c0, c1, c2⟩ := at_cells h hi hpg.1 hpg.2
      rw [his, Option.isSome_iff_ne_none.2 h3] at c2
      obtain ⟨k, rfl⟩ : ∃ k : Nat, pg = k := ⟨pg.toNat, by omega⟩
      simp only [Int.toNat_natCast] at c2
      have hil : (i : Int) < (T.length : Int) := by omega
      have hk4 : (k : Int) < 4096 := by omega
      have hk9 : ¬ 4095 < (k : Int) := by omega
      have hk0 : ¬ (k : Int) < 0 := by omega
      have HI : Hid (i < T.length ∧ (T.getD i zT).1.n = n) := ⟨hi, hin⟩
      clear h hT hs hi hin his h3 h1 h2 hpg
      go_enter Try.func33, Try.ntmps33
      go_wp2_with fail
      refine hf.mono ?_
      rintro e w1 ⟨rfl, hw⟩
      obtain rfl := hw.symm
      clear hw
      go_wp2
      go_ret2
      exact ⟨rfl, Or.inr ⟨rfl, i, HI.out.1, HI.out.2, rfl⟩⟩
end Go.Proofs.Ytoimmapdkapheaa
/- Lists of areas as rows. -/
namespace Go.Proofs.Ytoimmapdkapheaa
set_option maxRecDepth 4000
open Go.RowKit
theorem rAAr.kin : Kin Try.prog rAAr 51 := AAr.kin
end Go.Proofs.Ytoimmapdkapheaa
/- slices.Clone and slices.Delete over rows of one kind of record. -/
namespace Go.Proofs.Ytoimmapdkapheaa
set_option maxRecDepth 4000
open Go.RowKit

theorem heap_alloc2_rAAr (w : World) (o : Obj) : (w.alloc o).heap.size = w.heap.size + 1 := by simp

/-- What Clone tells: a row of its own. -/
def ClonePrAAr (w : World) (l : List AAr) (e : Ending) (w' : World) : Prop := ∃ v', e = .returned v' ∧ Row rAAr w.heap.size w' v' l ∧ Below w.heap.size w w'
set_option maxRecDepth 100000 in
set_option maxHeartbeats 2000000 in
theorem clone_rAAr {B : Nat} {w : World} {v : Value} {l : List AAr} (hown : Row rAAr B w v l) (hm : l.length ≤ 4096) :
    Calls Try.prog 47 #[v] w (ClonePrAAr w l) := by
  have q22 : ∀ (w : World) (a : Option Addr) (n c n' c' : Nat), (binOp .eql 51 (.slice a n c) (.slice none n' c')).run Try.prog w = .ok (.bool a.isNone) w := fun w a n c n' c' => Lib.run_eql_slice_nil w _ _ a n c n' c' Try.underlying51
  rcases hown.cases with ⟨rfl, rfl⟩ | ⟨g, c, cur, rfl, hB, hg0, hg, hlc, hcm, hs, hh⟩
  · go_enter Try.func47, Try.ntmps47
    go_wp2
    go_ret
    exact ⟨_, rfl, Row.nil _ _ _, Below.refl _ _⟩
  · have hcm' : c ≤ 9223372036854775807 := by unfold maxLen at hcm; omega
    have HS : Hid (Seen rAAr (w.alloc (.cells #[] 55)) (some ⟨g, 0, none⟩) c l) := hown.seen.2.below ((Below.refl _ _).alloc (Nat.le_refl _) _)
    have HR0 : Hid (Row rAAr w.heap.size (w.alloc (.cells #[] 55)) (.slice (some ⟨w.heap.size, 0, none⟩) 0 0) []) := World.ownsRow_made w #[] 0 (Nat.le_refl _) (Nat.zero_le _) (by simp)
    clear hown hh hs hcm hB
    go_enter Try.func47, Try.ntmps47
    go_wp2_with (at_builtin; refine list_app rAAr.kin rfl _ _ rfl w.heap.size _ [] l rfl HR0.out (some ⟨g, 0, none⟩) l.length c rfl rfl HS.out ?c3 ?c4 ?c5 ?_)
    case c3 => simp [maxLen]; omega
    case c4 => simp [rAAr]; omega
    case c5 => simp
    intro v' w1 ho hgrow
    have HO : Hid (Row rAAr w.heap.size w1 v' l) := ho
    clear ho
    go_wp2
    go_ret
    exact ⟨v', rfl, HO.out, ((Below.refl _ w).alloc (Nat.le_refl _) _).grown hgrow (by simp) (by intro k hk; simp [Value.ownBlock] at hk; omega)⟩

/-- What Delete, Insert and Replace tell: the row that was, turned, or a new one. -/
def TurnPrAAr (w : World) (B : Nat) (v : Value) (l : List AAr) (e : Ending) (w' : World) : Prop := ∃ v', e = .returned v' ∧ Row rAAr B w' v' l ∧ Keeps w w' (fun b => v.ownBlock = some b) ∧ ∀ g, v'.ownBlock = some g → v.ownBlock = some g ∨ w.heap.size ≤ g
/-- What Delete tells, to the block. -/
def DelPrAAr (w : World) (B g c : Nat) (l : List AAr) (e : Ending) (w' : World) : Prop := e = .returned (.slice (some ⟨g, 0, none⟩) l.length c) ∧ Row rAAr B w' (.slice (some ⟨g, 0, none⟩) l.length c) l ∧ Keeps w w' (fun b => b = g)
theorem keeps_own {w w' : World} {g n c : Nat} (h : Keeps w w' (fun b => b = g)) : Keeps w w' (fun b => (Value.slice (some ⟨g, 0, none⟩) n c).ownBlock = some b) := h.mono fun b _ e => by
  subst e
  rfl
theorem keeps_drew {w w' : World} {s : Nat → Prop} (h : Keeps w.drew w' s) : Keeps w w' s := ⟨h.os, h.tape, h.output, h.size, h.block⟩

end Go.Proofs.Ytoimmapdkapheaa
/- Pages of a space, as the program has them. -/
namespace Go.Proofs.Ytoimmapdkapheaa
set_option maxRecDepth 4000
open Go.RowKit

theorem intKeyed : Maps.Keyed Try.prog 3 := Maps.int_keyed Try.underlying3
def okI (k : Int) : Prop := -9223372036854775808 ≤ k ∧ k ≤ 9223372036854775807
theorem i_inj {a b : Int} (h : Value.int .i64 a = Value.int .i64 b) : a = b := by simpa using h
theorem i_reads {a : Int} (h : okI a) : ∃ l, keyOf Try.prog 3 (.int .i64 a) = some l := by
  have w1 : (Lit.int .i64 a).wf = true := WalkArith.wf_i64 (by have := h.1; have := h.2; omega)
  exact ⟨.int .i64 a, by simp [keyOf, Try.underlying3, mapKey, w1]⟩
def w8arr (x : Nat → Nat) : Array Value := #[.int .u64 (x 0), .int .u64 (x 1), .int .u64 (x 2), .int .u64 (x 3), .int .u64 (x 4), .int .u64 (x 5), .int .u64 (x 6), .int .u64 (x 7)]
def wv (x : Nat → Nat) : Value := .agg (w8arr x)
def zw : Nat → Nat := fun _ => 0
/-- Pages' words. -/
def wordM : Mk Try.prog Int (Nat → Nat) := { t := 83, k := 3, e := 77, key := fun k => .int .i64 k, val := wv, ok := okI, law := intKeyed, ht := Try.underlying83, inj := i_inj, reads := i_reads }
theorem zero_w8 (w : World) : (zeroValue 77).run Try.prog w = .ok (wv zw) w := by
  obtain ⟨i0, hi, hz0, hz1, hz2⟩ := info_parts (P := Try.prog) (e := 77) (z := wv zw) (size := 8) (bytes := 64) (by kernel_rfl)
  simp [zeroValue, typeInfo, hi, hz0]
abbrev Wds := List (Int × (Nat → Nat))
/-- What a page's words are. -/
def wdOf (es : Wds) (k : Int) : Nat → Nat := match getL es k with | some x => x | none => zw
theorem get_wd {w : World} {b : Nat} {es : Wds} (h : Mp wordM w b es) {k : Int} (hk : okI k) : (Instr.lookup 83 (.map (some b)) (.int .i64 k) false).run Try.prog w = .ok (wv (wdOf es k)) w := by
  have := h.get hk (zero_w8 w)
  unfold wdOf
  cases e : getL es k <;> rw [e] at this <;> exact this
/-- How pages lie. -/
structure PgL where
  v : Value
  M : List AAr
  wb : Nat
  es : Wds
structure PgL.fits (d : PgL) (s : Sp) : Prop where
  ok : s.ok
  can : CanA s.f d.M
  few : d.M.length ≤ 64
  wds : ∀ k : Nat, k < 4096 → s.f k ≠ none → ∀ j, j < 8 → wdOf d.es k j = s.wd k j
def pgC (v : Value) (wb : Nat) : Array Value := #[v, .map (some wb)]
def PgX (g : Nat) (d : PgL) : Th := (Th.box g 85 (pgC d.v d.wb)).and ((Th.row rAAr d.v d.M).and (Th.mp wordM d.wb d.es))
/-- The pages of a space. -/
def PgT (g : Nat) (s : Sp) : Th := Th.ex fun d : PgL => Th.when (d.fits s) (PgX g d)
theorem pgx_in {F : Nat → Prop} {w : World} {g : Nat} {d : PgL} (h : (PgX g d).In F w) : Laid w g 85 (pgC d.v d.wb) ∧ Row rAAr 0 w d.v d.M ∧ Mp wordM w d.wb d.es := by
  obtain ⟨A, B, _, _, h1, C, D, _, _, h2, h3⟩ := h
  exact ⟨h1.2, h2.2, h3.2⟩

set_option maxHeartbeats 400000 in
theorem become_ok (g : Nat) (v m : Value) (ao : Option Addr) (n c : Nat) (w : World) (h : Laid w g 85 #[v, m]) : Calls Try.prog 38 #[.pointer (some ⟨g, 0, none⟩), .slice ao n c, .nilIface] w fun e w' => e = .returned .nilIface ∧ w' = w.setCell ⟨g, 0, none⟩ (.slice ao n c) := by
  have c0 : w.cell? ⟨g, 0, none⟩ = some v := by rw [h.cell]; rfl
  have f0 : w.frozen? ⟨g, 0, none⟩ = false := frozen_of_row w g 0 _ _ h
  clear h
  go_enter Try.func38, Try.ntmps38
  go_wp2
  go_ret
  exact ⟨rfl, rfl⟩
set_option maxHeartbeats 400000 in
theorem become_no (p v' : Value) (n : Int) (w : World) : Calls Try.prog 38 #[p, v', .iface 48 (.int .i64 n)] w fun e w' => e = .returned (.iface 48 (.int .i64 n)) ∧ w' = w := by
  go_enter Try.func38, Try.ntmps38
  go_wp2
  go_ret
  exact ⟨rfl, rfl⟩
end Go.Proofs.Ytoimmapdkapheaa
/- maps.DeleteFunc over pages' words; forget. -/
namespace Go.Proofs.Ytoimmapdkapheaa
set_option maxRecDepth 4000
open Go.RowKit

def gonB (a b k : Int) : Bool := decide (a ≤ k) && decide (k < b)
/-- Two numbers in boxes of their own. -/
structure Cap2 (w : World) (x y : Nat) (a b : Int) : Prop where
  h1 : Laid w x 3 #[.int .i64 a]
  h2 : Laid w y 3 #[.int .i64 b]
theorem Cap2.below {w w' : World} {x y : Nat} {a b : Int} (h : Cap2 w x y a b) (hb : Below w.heap.size w w') : Cap2 w' x y a b := ⟨h.h1.below hb, h.h2.below hb⟩
set_option maxHeartbeats 1000000 in
theorem gone_any {w : World} {x y : Nat} {a b : Int} (h : Cap2 w x y a b) (k : Int) (ws : Nat → Nat) :
    Calls Try.prog 63 #[.int .i64 k, wv ws, .pointer (some ⟨x, 0, none⟩), .pointer (some ⟨y, 0, none⟩)] w fun e w' => e = .returned (.bool (gonB a b k)) ∧ Below w.heap.size w w' := by
  have c1 : w.cell? ⟨x, 0, none⟩ = some (.int .i64 a) := by rw [h.h1.cell]; rfl
  have c2 : w.cell? ⟨y, 0, none⟩ = some (.int .i64 b) := by rw [h.h2.cell]; rfl
  have l1 := h.h1.lt
  have l2 := h.h2.lt
  have d1 := fun o v => cell_alloc_old l1 o v
  have d2 := fun o v => cell_alloc_old l2 o v
  have HB : Hid (Below w.heap.size w (w.alloc (.cells (w8arr ws) 77))) := new_below _ _
  unfold wv
  generalize hws : w8arr ws = arr at *
  clear h hws
  by_cases h1 : a ≤ k
  · have HG : gonB a b k = decide (k < b) := by simp [gonB, h1]
    rw [HG]
    clear HG
    go_enter Try.func63, Try.ntmps63
    go_wp2
    go_ret
    exact ⟨rfl, HB.out⟩
  · have HG : gonB a b k = false := by simp [gonB, h1]
    rw [HG]
    clear HG
    go_enter Try.func63, Try.ntmps63
    go_wp2
    go_ret
    exact ⟨rfl, HB.out⟩

/-- The pages while a loop goes over them. -/
def curW (a b : Int) (dn : Int → Bool) (l : Wds) : Wds := l.filter fun p => !(dn p.1 && gonB a b p.1)
def stepI (dn : Int → Bool) (s : Int) : Int → Bool := fun k => dn k || decide (k = s)
def keepW (a b : Int) (l : Wds) : Wds := l.filter fun p => !gonB a b p.1
section
variable {a b : Int} {dn : Int → Bool} {l : Wds}
theorem curW_start : curW a b (fun _ => false) l = l := by simp [curW]
theorem curW_del {s : Int} (hg : gonB a b s = true) : delL (curW a b dn l) s = curW a b (stepI dn s) l := by
  unfold delL curW stepI
  rw [List.filter_filter]
  apply List.filter_congr
  intro p _
  by_cases e : p.1 = s
  · simp [e, hg]
  · simp [e]
theorem curW_turn {s : Int} (hg : gonB a b s = false) : curW a b (stepI dn s) l = curW a b dn l := by
  unfold curW stepI
  apply List.filter_congr
  intro p _
  by_cases e : p.1 = s
  · simp [e, hg]
  · simp [e]
theorem curW_end (h : ∀ p ∈ curW a b dn l, dn p.1 = true) : curW a b dn l = keepW a b l := by
  unfold curW keepW at *
  apply List.filter_congr
  intro p hp
  cases hd : dn p.1 with
  | true => simp
  | false =>
    have := h p (List.mem_filter.2 ⟨hp, by simp [hd]⟩)
    rw [hd] at this
    cases this
theorem leftI_le (s : Int) : ∀ l : Wds, (l.filter fun p => !stepI dn s p.1).length ≤ (l.filter fun p => !dn p.1).length
  | [] => Nat.le_refl _
  | x :: r => by
    have ih := leftI_le s r
    simp only [List.filter_cons]
    cases h1 : dn x.1 <;> by_cases h2 : x.1 = s <;> simp [stepI, h1, h2] at ih ⊢ <;> omega
theorem leftI_drops {p : Int × (Nat → Nat)} (hd : dn p.1 = false) : ∀ l : Wds, p ∈ l → (l.filter fun q => !stepI dn p.1 q.1).length < (l.filter fun q => !dn q.1).length
  | [], h => by simp at h
  | x :: r, h => by
    have hle := leftI_le (dn := dn) p.1 r
    have ih := leftI_drops hd r
    simp only [List.filter_cons]
    rcases List.mem_cons.1 h with rfl | h
    · simp [stepI, hd] at hle ⊢
      omega
    · have ih := ih h
      cases h1 : dn x.1 <;> by_cases h2 : x.1 = p.1 <;> simp [stepI, h1, h2] at ih hle ⊢ <;> omega
theorem leftI_del (s : Int) (l : Wds) : ((delL l s).filter fun p => !dn p.1).length ≤ (l.filter fun p => !dn p.1).length :=
  ((List.filter_sublist (l := l)).filter _).length_le
theorem keepW_get (l : Wds) (k : Int) : getL (keepW a b l) k = if gonB a b k = true then none else getL l k := by
  unfold getL keepW
  rw [List.find?_filter]
  cases hg : gonB a b k with
  | true =>
    rw [if_pos rfl]
    rw [List.find?_eq_none.2]
    · rfl
    · intro p _ e
      simp at e
      rw [← e.2, e.1] at hg
      cases hg
  | false =>
    rw [if_neg (by simp)]
    congr 2
    funext p
    by_cases e : p.1 = k
    · simp [e, hg]
    · simp [e]
end
/-- While the loop goes on. -/
structure DlW (w : World) (m : Nat) (l : Wds) (x y : Nat) (a b : Int) (W : World) (dn : Int → Bool) : Prop where
  rg : Rg wordM W m w.heap.size (curW a b dn l) dn
  cap : Cap2 W x y a b
  keeps : Keeps w W (fun c => c = m)
theorem DlW.start {w w1 : World} {m : Nat} {l : Wds} {x y : Nat} {a b : Int} (hC : Cap2 w x y a b) (hr : Rg wordM w1 m w.heap.size l (fun _ => false)) (hg : w.grownBy w1 none) : DlW w m l x y a b w1 (fun _ => false) :=
  ⟨by rw [curW_start]; exact hr, ⟨hC.h1.kept hg (by simp), hC.h2.kept hg (by simp)⟩, (Keeps.of_grown hg).mono fun _ _ e => by cases e⟩
theorem rg_ne {W : World} {m r : Nat} {l : Wds} {dn : Int → Bool} (h : Rg wordM W m r l dn) {g : Nat} {t : TypeId} {c : Array Value} (hL : Laid W g t c) : g ≠ r ∧ g ≠ m := by
  obtain ⟨es, clock, since, seen, c0, hb, _, _, _, hr, _⟩ := h
  constructor
  · intro e
    unfold Laid at hL
    rw [e, hr] at hL
    cases hL
  · intro e
    unfold Laid at hL
    rw [e, hb] at hL
    cases hL
set_option maxRecDepth 100000 in
set_option maxHeartbeats 4000000 in
theorem delW_any {w : World} {m : Nat} {l : Wds} {x y : Nat} {a b : Int} (hM : Mp wordM w m l) (hC : Cap2 w x y a b) :
    Calls Try.prog 62 #[.map (some m), .func (.func 63) #[] #[.pointer (some ⟨x, 0, none⟩), .pointer (some ⟨y, 0, none⟩)]] w fun e w' => e = .returned (.tuple #[]) ∧ Mp wordM w' m (keepW a b l) ∧ Keeps w w' (fun c => c = m) := by
  have HK : Hid (∀ p ∈ l, okI p.1) := hM.oks
  have HS : Hid (∀ w1, Rg wordM w1 m w.heap.size l (fun _ => false) → w.grownBy w1 none → DlW w m l x y a b w1 (fun _ => false)) := fun w1 h1 h2 => DlW.start hC h1 h2
  clear hC
  go_enter Try.func62, Try.ntmps62
  go_wp2_with (first | (at_range; refine wpList_range_M (M := wordM) _ rfl _ rfl m l rfl hM ?_; intro w0 hrg0 hg0 hs0) | go_in)
  try go_frame
  go_loopw [4] (fun _ W => ∃ dn, Hid (DlW w m l x y a b W dn)) (fun _ W => W.rangeLeft m w.heap.size)
  case atStart => exact ⟨_, HS.out _ hrg0 hg0⟩
  case round =>
    obtain ⟨dn, hD⟩ := hrel
    have hRG := hD.out.rg
    go_wp2_with (first | (at_next; refine wpList_next_M (M := wordM) _ rfl _ rfl m w.heap.size _ dn rfl hRG ?_ ?_) | go_in)
    · intro hdone
      go_wp2
      go_end0
      have e := curW_end fun p hp => hdone p.1 p.2 hp
      exact ⟨rfl, by rw [← e]; exact hRG.mp, hD.out.keeps⟩
    · intro s ws w1 hp hdn hrg hg1 hs1 hen
      have HC1 : Hid (Cap2 w1 x y a b) := ⟨hD.out.cap.h1.kept hg1 (by simpa using (rg_ne hRG hD.out.cap.h1).1), hD.out.cap.h2.kept hg1 (by simpa using (rg_ne hRG hD.out.cap.h2).1)⟩
      have HKP : Hid (Keeps w w1 (fun c => c = m)) := hD.out.keeps.trans (Keeps.of_grown hg1) fun c hc e => by simp at e; omega
      have hks := HK.out _ (List.mem_filter.1 hp).1
      simp only [wordM, wv, w8arr] at hen
      have hc := fun w' (h : Cap2 w' x y a b) => gone_any h s ws
      unfold wv w8arr at hc
      have HP : Hid _ := hp
      have HDN : Hid _ := hdn
      have HRG : Hid (Rg wordM w1 m w.heap.size (curW a b dn l) (stepI dn s)) := hrg
      have HSK : Hid _ := hks
      have HR : Hid (Rg wordM wr m w.heap.size (curW a b dn l) dn) := hRG
      clear hp hdn hrg hks hD hrg0 hg0 hs0 hg1 hs1 hRG
      generalize ws 0 = y0, ws 1 = y1, ws 2 = y2, ws 3 = y3, ws 4 = y4, ws 5 = y5, ws 6 = y6, ws 7 = y7 at hen hc
      go_wp2_with fail
      refine (hc _ (HC1.out.below (new_below _ _))).mono ?_
      rintro e w2 ⟨rfl, hb2⟩
      have HB : Hid (Below w1.heap.size w1 w2) := below_call' (new_below w1 _) hb2
      have HK2 : Hid (Keeps w w2 (fun c => c = m)) := HKP.out.trans (Keeps.of_below HB.out _) fun _ _ e => e
      have HR2 : Hid (Rg wordM w2 m w.heap.size (curW a b dn l) (stepI dn s)) := HRG.out.same (HB.out.block _ HRG.out.mp.lt) (HB.out.block _ HRG.out.lt)
      have HC2 : Hid (Cap2 w2 x y a b) := HC1.out.below HB.out
      clear hb2 hc HB HKP HC1
      cases hgo : gonB a b s with
      | true =>
        have HG : Hid (gonB a b s = true) := hgo
        clear hgo
        go_wp2_with (first | (at_delete; refine wpList_delete_R (M := wordM) _ rfl _ _ rfl m w.heap.size _ _ rfl HR2.out s HSK.out rfl ?_; intro w3 hrg3 hturn) | go_in)
        try go_frame
        go_roundw
        case rel =>
          refine ⟨stepI dn s, ?_, ⟨HC2.out.h1.kept hturn.grown (by simpa using (rg_ne HR2.out HC2.out.h1).2), HC2.out.h2.kept hturn.grown (by simpa using (rg_ne HR2.out HC2.out.h2).2)⟩, HK2.out.trans (Keeps.of_grown hturn.grown) fun c _ e => by simpa using e.symm⟩
          rw [← curW_del HG.out]
          exact hrg3
        case measure =>
          rw [hrg3.left_eq, HR.out.left_eq]
          exact Nat.lt_of_le_of_lt (leftI_del _ _) (leftI_drops HDN.out _ HP.out)
      | false =>
        have HG : Hid (gonB a b s = false) := hgo
        clear hgo
        go_wp2
        go_roundw
        case rel => exact ⟨stepI dn s, by rw [curW_turn HG.out]; exact HR2.out, HC2.out, HK2.out⟩
        case measure =>
          rw [HR2.out.left_eq, HR.out.left_eq]
          exact leftI_drops HDN.out _ HP.out
set_option maxHeartbeats 1000000 in
theorem forget_any {w : World} {g wb : Nat} {v : Value} {l : Wds} (hL : Laid w g 85 (pgC v wb)) (hM : Mp wordM w wb l) (a b : Int) :
    Calls Try.prog 44 #[.pointer (some ⟨g, 0, none⟩), .int .i64 a, .int .i64 b] w fun e w' => e = .returned (.tuple #[]) ∧ Mp wordM w' wb (keepW a b l) ∧ Keeps w w' (fun c => c = wb) := by
  have c1 : w.cell? ⟨g, 1, none⟩ = some (.map (some wb)) := by rw [hL.cell]; rfl
  have l1 := hL.lt
  have d1 := fun o v => cell_alloc_old l1 o v
  have HB : Hid (Below w.heap.size w ((w.alloc (.cells #[.int .i64 a] 3)).alloc (.cells #[.int .i64 b] 3))) := ((Below.refl _ _).alloc (Nat.le_refl _) _).alloc (by simp) _
  have hc := delW_any (hM.same (HB.out.block _ hM.lt)) (x := w.heap.size) (y := w.heap.size + 1) (a := a) (b := b) ⟨(Laid.new w 3 #[.int .i64 a]).below (new_below _ _), by
    have := Laid.new (w.alloc (.cells #[.int .i64 a] 3)) 3 #[.int .i64 b]
    simpa using this⟩
  have d2 : ((w.alloc (.cells #[.int .i64 a] 3)).alloc (.cells #[.int .i64 b] 3)).cell? ⟨g, 1, none⟩ = some (.map (some wb)) := by
    rw [World.cell?_of_block (w := w) (a := ⟨g, 1, none⟩) (HB.out.block _ l1)]
    exact c1
  clear hL hM d1 l1 c1
  go_enter Try.func44, Try.ntmps44
  go_wp2_with fail
  refine hc.mono ?_
  rintro e w2 ⟨rfl, h1, h2⟩
  have H1 : Hid _ := h1
  have H2 : Hid _ := h2
  clear h1 h2 hc
  go_wp2
  go_end0
  exact ⟨rfl, H1.out, (Keeps.of_below HB.out _).trans H2.out fun _ _ e => e⟩
end Go.Proofs.Ytoimmapdkapheaa
/- The program's world of spaces: how it lies; its small functions. -/
namespace Go.Proofs.Ytoimmapdkapheaa
set_option maxRecDepth 4000
open Go.RowKit

theorem zero_pp (w : World) : (zeroValue 80).run Try.prog w = .ok (.pointer none) w := by
  obtain ⟨i0, hi, hz0, hz1, hz2⟩ := info_parts (P := Try.prog) (e := 80) (z := .pointer none) (size := 1) (bytes := 8) (by kernel_rfl)
  simp [zeroValue, typeInfo, hi, hz0]
/-- Spaces, and where their pages lie. -/
def spM : Mk Try.prog Int (Nat × Sp) := { t := 66, k := 3, e := 80, key := fun k => .int .i64 k, val := fun x => .pointer (some ⟨x.1, 0, none⟩), ok := okI, law := intKeyed, ht := Try.underlying66, inj := i_inj, reads := i_reads }
abbrev Spl := List (Int × (Nat × Sp))
def lkP (l : Spl) : Wd := fun n => (getL l n).map (·.2)
theorem lk_put (l : Spl) (n : Int) (x : Nat × Sp) : lkP (putL l n x) = (lkP l).set n (some x.2) := by
  funext k
  unfold lkP Wd.set
  rw [getL_put]
  by_cases e : k = n <;> simp [e]
theorem lk_dele (l : Spl) (n : Int) : lkP (delL l n) = (lkP l).set n none := by
  funext k
  unfold lkP Wd.set
  rw [getL_del]
  by_cases e : k = n <;> simp [e]
def ptrO (o : Option (Nat × Sp)) : Value := .pointer (o.map fun x => ⟨x.1, 0, none⟩)
theorem get_sp {w : World} {m : Nat} {l : Spl} (h : Mp spM w m l) {n : Int} (hn : okI n) : (Instr.lookup 66 (.map (some m)) (.int .i64 n) false).run Try.prog w = .ok (ptrO (getL l n)) w := by
  have := h.get hn (zero_pp w)
  unfold ptrO
  cases e : getL l n <;> rw [e] at this <;> exact this
def pgs (l : Spl) : List Th := l.map fun x => PgT x.2.1 x.2.2
def FlX (p m : Nat) (l : Spl) : Th := (Th.mp spM m l).and ((Th.box p 68 #[.map (some m)]).and (Th.all (pgs l)))
/-- A world of spaces of the program's. -/
def FlT (p : Nat) (A : Wd) : Th := Th.ex fun d : Nat × Spl => Th.when (lkP d.2 = A ∧ A.ok) (FlX p d.1 d.2)
theorem FlX.mp {F : Nat → Prop} {w : World} {p m : Nat} {l : Spl} (h : (FlX p m l).In F w) : Mp spM w m l := by
  obtain ⟨_, _, _, _, h1, _⟩ := h
  exact h1.2
theorem FlX.box {F : Nat → Prop} {w : World} {p m : Nat} {l : Spl} (h : (FlX p m l).In F w) : Laid w p 68 #[.map (some m)] := by
  obtain ⟨_, _, _, _, _, _, _, _, _, h1, _⟩ := h
  exact h1.2
theorem pgs_mid (l1 l2 : Spl) (n : Int) (x : Nat × Sp) : pgs (l1 ++ (n, x) :: l2) = pgs l1 ++ PgT x.1 x.2 :: pgs l2 := by simp [pgs]
theorem pgs_app (l1 l2 : Spl) : pgs (l1 ++ l2) = pgs l1 ++ pgs l2 := by simp [pgs]
/-- One of the spaces in front. -/
theorem fl_pick (p m : Nat) (l1 l2 : Spl) (n : Int) (x : Nat × Sp) (l : Spl) (hl : l = l1 ++ (n, x) :: l2) :
    (FlX p m l).le ((PgT x.1 x.2).and ((Th.mp spM m l).and ((Th.box p 68 #[.map (some m)]).and (Th.all (pgs (l1 ++ l2)))))) := fun {F w} h => by
  refine and_left _ _ _ (and_mono (Th.le.refl _) (Th.le.trans (and_mono (Th.le.refl _) ?_) (and_left _ _ _)) h)
  rw [hl, pgs_mid, pgs_app]
  exact all_pick _ _ _
theorem fl_put (p m : Nat) (l1 l2 : Spl) (n : Int) (x : Nat × Sp) (l : Spl) (hl : l = l1 ++ (n, x) :: l2) :
    ((PgT x.1 x.2).and ((Th.mp spM m l).and ((Th.box p 68 #[.map (some m)]).and (Th.all (pgs (l1 ++ l2)))))).le (FlX p m l) := fun {F w} h => by
  refine and_mono (Th.le.refl _) (Th.le.trans (and_left _ _ _) (and_mono (Th.le.refl _) ?_)) (and_left _ _ _ h)
  rw [hl, pgs_mid, pgs_app]
  exact all_put _ _ _
theorem mp_look {m : Nat} {l l' : Spl} (e : l.map (fun q => (spM.key q.1, spM.val q.2)) = l'.map fun q => (spM.key q.1, spM.val q.2)) : (Th.mp spM m l).le (Th.mp spM m l') := fun {F w} h => by
  exact ⟨h.1, Mp.turn h.2 e⟩
theorem fl_open {F : Nat → Prop} {w : World} {p m : Nat} {l : Spl} {n : Int} {g : Nat} {s : Sp} (h : (FlX p m l).In F w) (hok : (lkP l).ok) (hg : getL l n = some (g, s)) :
    ∃ G, (PgT g s).In G w ∧ ∀ {s' : Sp} {w' : World}, s'.ok → Bec G w (PgT g s') w' → Bec F w (FlT p ((lkP l).set n (some s'))) w' := by
  obtain ⟨l1, l2, hl⟩ := List.append_of_mem (getL_mem hg)
  have hd := (FlX.mp h).apart
  rw [hl] at hd
  obtain ⟨G, h1, h2⟩ := In.open (fl_pick p m l1 l2 n (g, s) l hl h)
  refine ⟨G, h1, fun {s' w'} hs' hb => (h2 hb).imp fun {F' w''} k => ?_⟩
  have hn : okN n := (hok n s (by unfold lkP; rw [hg]; rfl)).1
  refine ⟨(m, l1 ++ (n, (g, s')) :: l2), ⟨?_, hok.set hn hs'⟩, fl_put p m l1 l2 n (g, s') _ rfl (and_mono (Th.le.refl _) (and_mono (mp_look ?_) (Th.le.refl _)) k)⟩
  · show lkP (l1 ++ (n, (g, s')) :: l2) = _
    rw [← lk_put l n (g, s'), hl, putL_mid hd]
  · rw [hl]
    simp [spM]
/-- Only read. -/
theorem fl_see {F : Nat → Prop} {w : World} {p m : Nat} {l : Spl} {n : Int} {g : Nat} {s : Sp} (h : (FlX p m l).In F w) (hg : getL l n = some (g, s)) : ∃ G, (PgT g s).In G w := by
  obtain ⟨l1, l2, hl⟩ := List.append_of_mem (getL_mem hg)
  obtain ⟨G, h1, _⟩ := In.open (fl_pick p m l1 l2 n (g, s) l hl h)
  exact ⟨G, h1⟩

def errV (c : Int) : Value := if c = 0 then .nilIface else .iface 48 (.int .i64 c)
theorem errV0 : errV 0 = .nilIface := rfl
theorem errV_ne {c : Int} (h : c ≠ 0) : errV c = .iface 48 (.int .i64 c) := if_neg h
def mayNB (n : Int) : Bool := decide (1 ≤ n) && decide (n ≤ 255)
theorem mayNB_iff (n : Int) : mayNB n = true ↔ okN n := by simp [mayNB, okN]
set_option maxHeartbeats 400000 in
theorem mayN_any (n : Int) (w : World) : Calls Try.prog 40 #[.int .i64 n] w fun e w' => e = .returned (.bool (mayNB n)) ∧ w' = w := by
  by_cases h1 : 1 ≤ n
  · rw [show mayNB n = decide (n ≤ 255) by simp [mayNB, h1]]
    go_enter Try.func40, Try.ntmps40
    go_wp2
    go_ret
    exact ⟨rfl, rfl⟩
  · rw [show mayNB n = false by simp [mayNB, h1]]
    go_enter Try.func40, Try.ntmps40
    go_wp2
    go_ret
    exact ⟨rfl, rfl⟩
section
variable {w : World} {p m : Nat} {l : Spl} {n : Int}
set_option maxHeartbeats 400000 in
theorem has_any (h1 : Laid w p 68 #[.map (some m)]) (h2 : Mp spM w m l) (hn : okI n) : Calls Try.prog 41 #[.pointer (some ⟨p, 0, none⟩), .int .i64 n] w fun e w' => e = .returned (.bool (getL l n).isSome) ∧ w' = w := by
  have c0 : w.cell? ⟨p, 0, none⟩ = some (.map (some m)) := by rw [h1.cell]; rfl
  have hg := get_sp h2 hn
  clear h1 h2
  cases e : getL l n with
  | none =>
    rw [e] at hg
    unfold ptrO at hg
    simp only [Option.map_none] at hg
    go_enter Try.func41, Try.ntmps41
    go_wp2
    go_ret
    exact ⟨rfl, rfl⟩
  | some x =>
    rw [e] at hg
    unfold ptrO at hg
    simp only [Option.map_some] at hg
    go_enter Try.func41, Try.ntmps41
    go_wp2
    go_ret
    exact ⟨rfl, rfl⟩
def ofR (o : Option (Nat × Sp)) : Value := match o with
  | none => .tuple #[.pointer none, .iface 48 (.int .i64 3)]
  | some x => .tuple #[.pointer (some ⟨x.1, 0, none⟩), .nilIface]
set_option maxHeartbeats 400000 in
theorem ofp_any (h1 : Laid w p 68 #[.map (some m)]) (h2 : Mp spM w m l) (hn : okI n) : Calls Try.prog 37 #[.pointer (some ⟨p, 0, none⟩), .int .i64 n] w fun e w' => e = .returned (ofR (getL l n)) ∧ w' = w := by
  have c0 : w.cell? ⟨p, 0, none⟩ = some (.map (some m)) := by rw [h1.cell]; rfl
  have hg := get_sp h2 hn
  have hh := has_any h1 h2 hn
  clear h1 h2
  cases e : getL l n with
  | none =>
    rw [e] at hg hh
    unfold ptrO at hg
    simp only [Option.map_none, Option.isSome_none] at hg hh
    go_enter Try.func37, Try.ntmps37
    go_wp2_with fail
    refine hh.mono ?_
    rintro e w1 ⟨rfl, hw⟩
    obtain rfl := hw.symm
    clear hw
    go_wp2
    go_ret2
    exact ⟨rfl, rfl⟩
  | some x =>
    rw [e] at hg hh
    unfold ptrO at hg
    simp only [Option.map_some, Option.isSome_some] at hg hh
    go_enter Try.func37, Try.ntmps37
    go_wp2_with fail
    refine hh.mono ?_
    rintro e w1 ⟨rfl, hw⟩
    obtain rfl := hw.symm
    clear hw
    go_wp2
    go_ret2
    exact ⟨rfl, rfl⟩
end
end Go.Proofs.Ytoimmapdkapheaa
