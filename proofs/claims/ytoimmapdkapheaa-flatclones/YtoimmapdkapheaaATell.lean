/- What calls tell of a list, in all worlds alike. -/
import Derived.Test.YtoimmapdkapheaaAUp
import Derived.Test.YtoimmapdkapheaaARgt
import Derived.Test.YtoimmapdkapheaaAChr
namespace Go.Proofs.Ytoimmapdkapheaa
set_option maxRecDepth 4000
open Go.RowKit

/-- A list, or an error. -/
def TellW (w : World) (r : Except Int (List AAr)) (e : Ending) (w' : World) : Prop := match r with
  | .ok M => ∃ ao c, e = .returned (.tuple #[.slice ao M.length c, .nilIface]) ∧ Hid (Row rAAr w.heap.size w' (.slice ao M.length c) M) ∧ Hid (Below w.heap.size w w')
  | .error n => e = .returned (.tuple #[.slice none 0 0, .iface 48 (.int .i64 n)]) ∧ Hid (Below w.heap.size w w')
/-- A list of the pages f, if there aren't too many. -/
def FitS (f : Int → Option Pg) (r : Except Int (List AAr)) : Prop := ∃ M, CanA f M ∧ ((M.length ≤ 64 ∧ r = .ok M) ∨ (64 < M.length ∧ r = .error 5))
def fitR (M : List AAr) : Except Int (List AAr) := if M.length ≤ 64 then .ok M else .error 5
theorem LayW.tell {w w' : World} {M : List AAr} {e : Ending} (h : LayW w M e w') : TellW w (fitR M) e w' := by
  have h1 := h.1
  unfold fitR
  by_cases c : M.length ≤ 64
  · rw [if_pos c] at h1 ⊢
    obtain ⟨v, e1, r⟩ := h1
    obtain ⟨ao, k, rfl⟩ := r.form
    exact ⟨ao, k, e1, r, h.2⟩
  · rw [if_neg c] at h1 ⊢
    exact ⟨h1, h.2⟩
theorem fit_s {f : Int → Option Pg} {M : List AAr} (h : CanA f M) : FitS f (fitR M) := by
  unfold fitR
  by_cases c : M.length ≤ 64
  · rw [if_pos c]
    exact ⟨M, h, Or.inl ⟨c, rfl⟩⟩
  · rw [if_neg c]
    exact ⟨M, h, Or.inr ⟨by omega, rfl⟩⟩
def LayS (L : List AAr) (a b : Int) (f : Int → Option Pg) (r : Except Int (List AAr)) : Prop := (¬ (MayA L ∧ SpanA a b) ∧ r = .error 1) ∨ ((MayA L ∧ SpanA a b) ∧ FitS f r)
theorem lay_tell (L : List AAr) (d : AAr) : ∃ r, LayS L d.a d.b (layA (ownA L) d.a d.b (some d.pg)) r ∧ ∀ w ao c, Sn rAAr w ao L → L.length ≤ maxLen → Calls Try.prog 43 #[.slice ao L.length c, av d] w (TellW w r) := by
  by_cases h : MayA L ∧ SpanA d.a d.b
  · refine ⟨fitR (layM L d.a d.b [d]), Or.inr ⟨h, fit_s (can_lay h.1.2 h.2.1 h.2.2.1 h.2.2.2)⟩, fun w ao c hs hm => (lay_any hs hm d).mono fun e w' k => ?_⟩
    rcases k with ⟨_, k⟩ | ⟨⟨k, _⟩, _⟩
    · exact k.tell
    · exact absurd h k
  · refine ⟨.error 1, Or.inl ⟨h, rfl⟩, fun w ao c hs hm => (lay_any hs hm d).mono fun e w' k => ?_⟩
    rcases k with ⟨k, _⟩ | ⟨⟨_, k⟩, hb⟩
    · exact absurd k h
    · exact ⟨k, hb⟩
theorem cut_tell (L : List AAr) (a b : Int) : ∃ r, LayS L a b (layA (ownA L) a b none) r ∧ ∀ w ao c, Sn rAAr w ao L → L.length ≤ maxLen → Calls Try.prog 48 #[.slice ao L.length c, .int .i64 a, .int .i64 b] w (TellW w r) := by
  by_cases h : MayA L ∧ SpanA a b
  · refine ⟨fitR (layM L a b []), Or.inr ⟨h, fit_s (can_cut h.1.2 h.2.1 h.2.2.1)⟩, fun w ao c hs hm => (cut_any hs hm a b).mono fun e w' k => ?_⟩
    rcases k with ⟨_, k⟩ | ⟨⟨k, _⟩, _⟩
    · exact k.tell
    · exact absurd h k
  · refine ⟨.error 1, Or.inl ⟨h, rfl⟩, fun w ao c hs hm => (cut_any hs hm a b).mono fun e w' k => ?_⟩
    rcases k with ⟨k, _⟩ | ⟨⟨_, k⟩, hb⟩
    · exact absurd k h
    · exact ⟨k, hb⟩
def EachS (L : List AAr) (a b : Int) (t : Pg → Pg) (r : Except Int (List AAr)) : Prop :=
  (¬ (MayA L ∧ SpanA a b) ∧ r = .error 1) ∨ ((MayA L ∧ SpanA a b) ∧ (∃ p, a ≤ p ∧ p < b ∧ ownA L p = none) ∧ r = .error 3) ∨ ((MayA L ∧ SpanA a b) ∧ (∀ p, a ≤ p → p < b → ownA L p ≠ none) ∧ FitS (mapA (ownA L) a b t) r)
theorem each_ex (L : List AAr) (a b : Int) (t : Pg → Pg) : ∃ r, EachS L a b t r ∧ ∀ w e w', EachW w L a b t e w' → TellW w r e w' := by
  by_cases h : MayA L ∧ SpanA a b
  · have hc := cov_clip h.1.2 h.2.1 h.2.2.1
    cases hq : covA a b (clipA a b L) with
    | true =>
      refine ⟨fitR (layM L a b ((clipA a b L).map (AAr.turn t))), Or.inr (Or.inr ⟨h, hc.1 hq, fit_s (can_map t h.1.2 h.2.1 h.2.2.1)⟩), fun w e w' k => ?_⟩
      rcases k with ⟨_, _, k⟩ | ⟨_, k, _⟩ | ⟨k, _⟩
      · exact k.tell
      · rw [hq] at k; cases k
      · exact absurd h k
    | false =>
      refine ⟨.error 3, Or.inr (Or.inl ⟨h, ?_, rfl⟩), fun w e w' k => ?_⟩
      · refine Classical.byContradiction fun k => ?_
        have := hc.2 fun p h1 h2 h3 => k ⟨p, h1, h2, h3⟩
        rw [hq] at this
        cases this
      · rcases k with ⟨_, k, _⟩ | ⟨_, _, k, hb⟩ | ⟨k, _⟩
        · rw [hq] at k; cases k
        · exact ⟨k, hb⟩
        · exact absurd h k
  · refine ⟨.error 1, Or.inl ⟨h, rfl⟩, fun w e w' k => ?_⟩
    rcases k with ⟨k, _⟩ | ⟨k, _⟩ | ⟨_, k, hb⟩
    · exact absurd k h
    · exact absurd k h
    · exact ⟨k, hb⟩
theorem change_tell (L : List AAr) (a b : Int) (x y : Bool) : ∃ r, EachS L a b (fun p => (x, y, p.2.2)) r ∧ ∀ w ao c, Sn rAAr w ao L → L.length ≤ maxLen → Calls Try.prog 39 #[.slice ao L.length c, .int .i64 a, .int .i64 b, .agg #[.bool x, .bool y]] w (TellW w r) := by
  obtain ⟨r, h1, h2⟩ := each_ex L a b (fun p => (x, y, p.2.2))
  exact ⟨r, h1, fun w ao c hs hm => (change_any hs hm a b x y).mono fun e w' k => h2 w e w' k⟩
theorem advise_tell (L : List AAr) (a b : Int) (x : Bool) : ∃ r, EachS L a b (fun p => (p.1, p.2.1, x)) r ∧ ∀ w ao c, Sn rAAr w ao L → L.length ≤ maxLen → Calls Try.prog 52 #[.slice ao L.length c, .int .i64 a, .int .i64 b, .bool x] w (TellW w r) := by
  obtain ⟨r, h1, h2⟩ := each_ex L a b (fun p => (p.1, p.2.1, x))
  exact ⟨r, h1, fun w ao c hs hm => (advise_any hs hm a b x).mono fun e w' k => h2 w e w' k⟩
/-- What Find tells. -/
def fndR (r : Except Int AAr) : Value := match r with
  | .ok d => .tuple #[av d, .nilIface]
  | .error n => .tuple #[av AAr.zero, .iface 48 (.int .i64 n)]
def FindS (L : List AAr) (p : Int) (r : Except Int AAr) : Prop := (¬ MayA L ∧ r = .error 1) ∨ (MayA L ∧ ownA L p = none ∧ r = .error 3) ∨ (MayA L ∧ ∃ d, d ∈ L ∧ d.a ≤ p ∧ p < d.b ∧ ownA L p = some d.pg ∧ r = .ok d)
theorem find_tell (L : List AAr) (p : Int) : ∃ r, FindS L p r ∧ ∀ w ao c, Sn rAAr w ao L → L.length ≤ maxLen → Calls Try.prog 54 #[.slice ao L.length c, .int .i64 p] w fun e w' => e = .returned (fndR r) ∧ Hid (Below w.heap.size w w') := by
  by_cases h : MayA L
  · have hf := fnd_own p L
    cases hq : fndA p L with
    | none =>
      rw [hq] at hf
      refine ⟨.error 3, Or.inr (Or.inl ⟨h, hf.symm, rfl⟩), fun w ao c hs hm => (find_any hs hm p).mono fun e w' ⟨k, hb⟩ => ?_⟩
      rcases k with ⟨_, k⟩ | ⟨k, _⟩
      · rw [hq] at k; exact ⟨k, hb⟩
      · exact absurd h k
    | some d =>
      rw [hq] at hf
      obtain ⟨h1, h2, h3⟩ := fnd_mem hq
      refine ⟨.ok d, Or.inr (Or.inr ⟨h, d, h1, h2, h3, hf.symm, rfl⟩), fun w ao c hs hm => (find_any hs hm p).mono fun e w' ⟨k, hb⟩ => ?_⟩
      rcases k with ⟨_, k⟩ | ⟨k, _⟩
      · rw [hq] at k; exact ⟨k, hb⟩
      · exact absurd h k
  · refine ⟨.error 1, Or.inl ⟨h, rfl⟩, fun w ao c hs hm => (find_any hs hm p).mono fun e w' ⟨k, hb⟩ => ?_⟩
    rcases k with ⟨k, _⟩ | ⟨_, k⟩
    · exact absurd k h
    · exact ⟨k, hb⟩
theorem LayS.sure {L : List AAr} {a b : Int} {f : Int → Option Pg} {M : List AAr} (h : LayS L a b f (.ok M)) : MayA L ∧ SpanA a b ∧ CanA f M ∧ M.length ≤ 64 := by
  rcases h with ⟨_, h⟩ | ⟨h, T, h1, h2 | h2⟩
  · cases h
  · obtain ⟨h3, h4⟩ := h2
    cases h4
    exact ⟨h.1, h.2, h1, h3⟩
  · cases h2.2
theorem FitS.uniq {f : Int → Option Pg} {r s : Except Int (List AAr)} (h : FitS f r) (h' : FitS f s) : r = s := by
  obtain ⟨M, m1, m2⟩ := h
  obtain ⟨T, t1, t2⟩ := h'
  obtain rfl := m1.uniq t1
  rcases m2 with ⟨m2, m3⟩ | ⟨m2, m3⟩ <;> rcases t2 with ⟨t2, t3⟩ | ⟨t2, t3⟩
  · rw [m3, t3]
  · omega
  · omega
  · rw [m3, t3]
theorem FitS.congr {f g : Int → Option Pg} {r : Except Int (List AAr)} (h : FitS f r) (e : ∀ p : Int, 0 ≤ p → p < 4096 → f p = g p) : FitS g r := by
  obtain ⟨M, m1, m2⟩ := h
  exact ⟨M, m1.congr e, m2⟩
theorem CanA.may {f : Int → Option Pg} {M : List AAr} (h : CanA f M) (hl : M.length ≤ 64) : MayA M := ⟨hl, h.1⟩
end Go.Proofs.Ytoimmapdkapheaa
