/- Lists of areas, and what pages have. No word of the program. -/
import Derived.Test.YtoimmapdkapheaaAAr
namespace Go.Proofs.Ytoimmapdkapheaa
set_option maxRecDepth 4000
open Go.RowKit

/-- What a page has: to be written, to be run, of blocks. -/
abbrev Pg := Bool × Bool × Bool
def AAr.pg (d : AAr) : Pg := (d.w, d.x, d.h)
def AAr.of (a b : Int) (t : Pg) : AAr := ⟨a, b, t.1, t.2.1, t.2.2⟩
theorem AAr.of_pg (d : AAr) : AAr.of d.a d.b d.pg = d := rfl
theorem pg_of (a b : Int) (t : Pg) : (AAr.of a b t).pg = t := rfl
theorem AAr.ext' {d e : AAr} (h1 : d.a = e.a) (h2 : d.b = e.b) (h3 : d.pg = e.pg) : d = e := by rw [← d.of_pg, ← e.of_pg, h1, h2, h3]

/-- Whether a page is in an area. -/
def inA (d : AAr) (p : Int) : Prop := d.a ≤ p ∧ p < d.b
/-- A page's ownA. -/
def ownA (L : List AAr) (p : Int) : Option Pg := match L with
  | [] => none
  | d :: L => if d.a ≤ p ∧ p < d.b then some d.pg else ownA L p
theorem own_nil (p : Int) : ownA [] p = none := rfl
theorem own_in {d : AAr} {L : List AAr} {p : Int} (h : inA d p) : ownA (d :: L) p = some d.pg := if_pos h
theorem own_out {d : AAr} {L : List AAr} {p : Int} (h : ¬ inA d p) : ownA (d :: L) p = ownA L p := if_neg h
theorem own_append : ∀ (L M : List AAr) (p : Int), ownA (L ++ M) p = (ownA L p).or (ownA M p)
  | [], M, p => by simp [ownA]
  | d :: L, M, p => by
    rw [List.cons_append]
    by_cases h : inA d p
    · rw [own_in h, own_in h]; rfl
    · rw [own_out h, own_out h, own_append L M p]
theorem own_none_iff : ∀ (L : List AAr) (p : Int), ownA L p = none ↔ ∀ d ∈ L, ¬ inA d p
  | [], p => by simp [ownA]
  | d :: L, p => by
    by_cases h : inA d p
    · rw [own_in h]
      exact ⟨(fun e => by cases e), fun e => absurd h (e d List.mem_cons_self)⟩
    · rw [own_out h, own_none_iff L p]
      exact ⟨fun e x hx => by
        rcases List.mem_cons.1 hx with rfl | hx
        · exact h
        · exact e x hx, fun e x hx => e x (List.mem_cons_of_mem _ hx)⟩
theorem own_some : ∀ (L : List AAr) (p : Int) (t : Pg), ownA L p = some t → ∃ d ∈ L, inA d p ∧ d.pg = t
  | [], p, t, h => by cases h
  | d :: L, p, t, h => by
    by_cases hd : inA d p
    · rw [own_in hd] at h
      exact ⟨d, List.mem_cons_self, hd, by simpa using h⟩
    · rw [own_out hd] at h
      obtain ⟨x, hx, h1, h2⟩ := own_some L p t h
      exact ⟨x, List.mem_cons_of_mem _ hx, h1, h2⟩

/-- A list that may be, but for its length, from lo on, where what is at lo's end is told. -/
def ChnA (lo : Int) (pr : Option Pg) (L : List AAr) : Prop := match L with
  | [] => True
  | d :: L => lo ≤ d.a ∧ d.a < d.b ∧ d.b ≤ 4096 ∧ (d.a = lo → pr ≠ some d.pg) ∧ ChnA d.b (some d.pg) L
def NrmA (L : List AAr) : Prop := ChnA 0 none L
/-- Where a list ends, and with what. -/
def finA (lo : Int) (pr : Option Pg) (L : List AAr) : Int × Option Pg := match L with
  | [] => (lo, pr)
  | d :: L => finA d.b (some d.pg) L
theorem chn_append : ∀ (L M : List AAr) (lo : Int) (pr : Option Pg), ChnA lo pr (L ++ M) ↔ ChnA lo pr L ∧ ChnA (finA lo pr L).1 (finA lo pr L).2 M
  | [], M, lo, pr => by simp [ChnA, finA]
  | d :: L, M, lo, pr => by
    rw [List.cons_append]
    show (_ ∧ _ ∧ _ ∧ _ ∧ ChnA d.b (some d.pg) (L ++ M)) ↔ (_ ∧ _ ∧ _ ∧ _ ∧ ChnA d.b (some d.pg) L) ∧ ChnA (finA d.b (some d.pg) L).1 (finA d.b (some d.pg) L).2 M
    rw [chn_append L M d.b (some d.pg)]
    constructor
    · rintro ⟨h1, h2, h3, h4, h5, h6⟩
      exact ⟨⟨h1, h2, h3, h4, h5⟩, h6⟩
    · rintro ⟨⟨h1, h2, h3, h4, h5⟩, h6⟩
      exact ⟨h1, h2, h3, h4, h5, h6⟩
theorem fin_append : ∀ (L M : List AAr) (lo : Int) (pr : Option Pg), finA lo pr (L ++ M) = finA (finA lo pr L).1 (finA lo pr L).2 M
  | [], _, _, _ => rfl
  | d :: L, M, lo, pr => by
    rw [List.cons_append]
    show finA d.b (some d.pg) (L ++ M) = _
    rw [fin_append L M]
    rfl
theorem chn_le : ∀ (L : List AAr) (lo : Int) (pr : Option Pg), ChnA lo pr L → lo ≤ (finA lo pr L).1 ∧ ∀ d ∈ L, lo ≤ d.a ∧ d.a < d.b ∧ d.b ≤ 4096 ∧ d.b ≤ (finA lo pr L).1
  | [], lo, pr, _ => ⟨Int.le_refl _, by simp⟩
  | d :: L, lo, pr, ⟨h1, h2, h3, _, h5⟩ => by
    obtain ⟨k1, k2⟩ := chn_le L d.b (some d.pg) h5
    refine ⟨by show lo ≤ (finA d.b (some d.pg) L).1; omega, fun x hx => ?_⟩
    rcases List.mem_cons.1 hx with rfl | hx
    · exact ⟨h1, h2, h3, k1⟩
    · obtain ⟨a1, a2, a3, a4⟩ := k2 x hx
      exact ⟨by omega, a2, a3, a4⟩
theorem own_below {L : List AAr} {lo : Int} {pr : Option Pg} (h : ChnA lo pr L) {p : Int} (hp : p < lo) : ownA L p = none := by
  rw [own_none_iff]
  intro d hd hin
  have := (chn_le L lo pr h).2 d hd
  have := hin.1
  omega
theorem own_behind {L : List AAr} {lo : Int} {pr : Option Pg} (h : ChnA lo pr L) {p : Int} (hp : (finA lo pr L).1 ≤ p) : ownA L p = none := by
  rw [own_none_iff]
  intro d hd hin
  have := (chn_le L lo pr h).2 d hd
  have := hin.2
  omega
theorem nrm_span {L : List AAr} (h : NrmA L) {d : AAr} (hd : d ∈ L) : 0 ≤ d.a ∧ d.a < d.b ∧ d.b ≤ 4096 := by
  have := (chn_le L _ _ h).2 d hd
  omega
/-- What is owned lies within the pages that there are. -/
theorem nrm_own {L : List AAr} (h : NrmA L) {p : Int} (hp : p < 0 ∨ 4096 ≤ p) : ownA L p = none := by
  rw [own_none_iff]
  intro d hd hin
  have := nrm_span h hd
  have := hin.1
  have := hin.2
  omega
/-- Its pages tell a list. -/
theorem chn_uniq : ∀ (L M : List AAr) (lo : Int) (pr : Option Pg), ChnA lo pr L → ChnA lo pr M → (∀ p, lo ≤ p → ownA L p = ownA M p) → L = M
  | [], [], _, _, _, _, _ => rfl
  | [], e :: M, lo, pr, _, h, hp => by
    have := hp e.a h.1
    rw [own_in ⟨Int.le_refl _, h.2.1⟩] at this
    cases this
  | d :: L, [], lo, pr, h, _, hp => by
    have := hp d.a h.1
    rw [own_in ⟨Int.le_refl _, h.2.1⟩] at this
    cases this
  | d :: L, e :: M, lo, pr, ⟨a1, a2, a3, a4, a5⟩, ⟨b1, b2, b3, b4, b5⟩, hp => by
    have ea : d.a = e.a := by
      rcases Int.lt_trichotomy d.a e.a with c | c | c
      · have h := hp d.a a1
        rw [own_in ⟨Int.le_refl _, a2⟩, own_out (fun k => by have := k.1; omega), own_below b5 (by omega)] at h
        cases h
      · exact c
      · have h := hp e.a b1
        rw [own_in (d := e) ⟨Int.le_refl _, b2⟩, own_out (fun k => by have := k.1; omega), own_below a5 (by omega)] at h
        cases h
    have ep : d.pg = e.pg := by
      have h := hp d.a a1
      rw [own_in ⟨Int.le_refl _, a2⟩, own_in ⟨by omega, by omega⟩] at h
      simpa using h
    have key : ∀ (X Y : List AAr) (x y : AAr), x.b < y.b → x.a = y.a → x.pg = y.pg → x.a < x.b → ChnA x.b (some x.pg) X → ownA (x :: X) x.b = ownA (y :: Y) x.b → False := fun X Y x y h1 h2 h3 h4 hX h => by
      rw [own_out (fun k => by have := k.2; omega), own_in (d := y) ⟨by omega, h1⟩] at h
      obtain ⟨z, hz, hin, hzp⟩ := own_some _ _ _ h
      cases X with
      | nil => cases hz
      | cons z' X =>
        obtain ⟨c1, c2, c3, c4, c5⟩ := hX
        rcases List.mem_cons.1 hz with rfl | hz
        · have := hin.1
          exact c4 (by omega) (by rw [h3, ← hzp])
        · have := ((chn_le X _ _ c5).2 z hz).1
          have := hin.1
          omega
    have eb : d.b = e.b := by
      rcases Int.lt_trichotomy d.b e.b with c | c | c
      · exact (key L M d e c ea ep a2 a5 (hp d.b (by omega))).elim
      · exact c
      · exact (key M L e d c ea.symm ep.symm b2 b5 (hp e.b (by omega)).symm).elim
    obtain rfl : d = e := AAr.ext' ea eb ep
    congr 1
    refine chn_uniq L M d.b (some d.pg) a5 b5 fun p hp' => ?_
    have h := hp p (by omega)
    rwa [own_out (fun k => by have := k.2; omega), own_out (fun k => by have := k.2; omega)] at h
/-- A list of the pages f. -/
def CanA (f : Int → Option Pg) (L : List AAr) : Prop := NrmA L ∧ ∀ p : Int, 0 ≤ p → p < 4096 → ownA L p = f p
theorem CanA.uniq {f : Int → Option Pg} {L M : List AAr} (h : CanA f L) (h' : CanA f M) : L = M := by
  refine chn_uniq L M 0 none h.1 h'.1 fun p hp => ?_
  by_cases hp' : p < 4096
  · rw [h.2 p hp hp', h'.2 p hp hp']
  · rw [nrm_own h.1 (by omega), nrm_own h'.1 (by omega)]
theorem CanA.congr {f g : Int → Option Pg} {L : List AAr} (h : CanA f L) (e : ∀ p : Int, 0 ≤ p → p < 4096 → f p = g p) : CanA g L := ⟨h.1, fun p h1 h2 => (h.2 p h1 h2).trans (e p h1 h2)⟩
theorem NrmA.can {L : List AAr} (h : NrmA L) : CanA (ownA L) L := ⟨h, fun _ _ _ => rfl⟩
theorem fin_snoc (lo : Int) (pr : Option Pg) (L : List AAr) (d : AAr) : finA lo pr (L ++ [d]) = (d.b, some d.pg) := by rw [fin_append]; rfl
theorem chn_one {lo : Int} {pr : Option Pg} {d : AAr} : ChnA lo pr [d] ↔ lo ≤ d.a ∧ d.a < d.b ∧ d.b ≤ 4096 ∧ (d.a = lo → pr ≠ some d.pg) := by
  unfold ChnA
  exact ⟨fun ⟨a, b, c, d, _⟩ => ⟨a, b, c, d⟩, fun ⟨a, b, c, d⟩ => ⟨a, b, c, d, trivial⟩⟩
/-- The pages below n, as areas. -/
def TilA (f : Int → Option Pg) (n : Int) (L : List AAr) : Prop := NrmA L ∧ (finA 0 none L).1 ≤ n ∧ ∀ p : Int, ownA L p = if 0 ≤ p ∧ p < n then f p else none
theorem TilA.nil (f : Int → Option Pg) : TilA f 0 [] := ⟨trivial, Int.le_refl _, fun p => by rw [if_neg (by omega)]; rfl⟩
/-- A run of pages that have nothing. -/
theorem TilA.skip {f : Int → Option Pg} {n m : Int} {L : List AAr} (h : TilA f n L) (hm : n ≤ m) (hf : ∀ p, n ≤ p → p < m → f p = none) : TilA f m L := by
  refine ⟨h.1, by have := h.2.1; omega, fun p => ?_⟩
  rw [h.2.2 p]
  by_cases c : 0 ≤ p ∧ p < n
  · rw [if_pos c, if_pos (by omega)]
  · rw [if_neg c]
    by_cases c2 : 0 ≤ p ∧ p < m
    · rw [if_pos c2, hf p (by omega) c2.2]
    · rw [if_neg c2]
/-- A run of pages that have the same, not what the page ahead has. -/
theorem TilA.run {f : Int → Option Pg} {n m : Int} {L : List AAr} {t : Pg} (h : TilA f n L) (h0 : 0 ≤ n) (hm : n < m) (hm2 : m ≤ 4096) (hf : ∀ p, n ≤ p → p < m → f p = some t) (ha : n = 0 ∨ f (n - 1) ≠ some t) : TilA f m (L ++ [AAr.of n m t]) := by
  refine ⟨?_, ?_, fun p => ?_⟩
  · refine (chn_append _ _ _ _).2 ⟨h.1, chn_one.2 ⟨h.2.1, hm, hm2, fun e k => ?_⟩⟩
    have e' : n = (finA 0 none L).1 := e
    have k' : (finA 0 none L).2 = some t := k
    rcases L.eq_nil_or_concat with rfl | ⟨L', d, rfl⟩
    · cases k'
    · rw [List.concat_eq_append, fin_snoc] at e' k'
      simp only [Option.some.injEq] at e' k'
      have hd := (chn_le _ _ _ h.1).2 d (by simp)
      have hp := h.2.2 (n - 1)
      rw [if_pos (by omega)] at hp
      have ho : ownA (L'.concat d) (n - 1) = some d.pg := by
        rw [List.concat_eq_append, own_append]
        have h1 := h.1
        rw [List.concat_eq_append] at h1
        have h2 := (chn_append _ _ _ _).1 h1
        rw [own_behind h2.1 (by have := (chn_one.1 h2.2).1; omega), own_in ⟨by omega, by omega⟩]
        rfl
      rw [ho, k'] at hp
      rcases ha with ha | ha
      · omega
      · exact ha hp.symm
  · rw [fin_snoc]
    exact Int.le_refl _
  · rw [own_append, h.2.2 p]
    by_cases c : 0 ≤ p ∧ p < n
    · rw [if_pos c, if_pos (by omega)]
      cases hfp : f p with
      | some x => rfl
      | none => rw [own_out (fun k => by have : n ≤ p := k.1; omega), own_nil]; rfl
    · rw [if_neg c]
      by_cases c2 : 0 ≤ p ∧ p < m
      · rw [if_pos c2, own_in ⟨by show n ≤ p; omega, c2.2⟩, hf p (by omega) c2.2]
        rfl
      · rw [if_neg c2, own_out (fun k => by have h1 : n ≤ p := k.1; have h2 : p < m := k.2; omega)]
        rfl
theorem TilA.can {f : Int → Option Pg} {L : List AAr} (h : TilA f 4096 L) : CanA f L := ⟨h.1, fun p h1 h2 => by rw [h.2.2 p, if_pos ⟨h1, h2⟩]⟩
theorem run_ex (f : Int → Option Pg) (t : Pg) : ∀ n : Nat, f n = some t → ∃ k : Nat, k ≤ n ∧ (∀ p : Int, (k : Int) ≤ p → p < (n : Int) + 1 → f p = some t) ∧ ((k : Int) = 0 ∨ f ((k : Int) - 1) ≠ some t)
  | 0, h => ⟨0, Nat.le_refl _, fun p h1 h2 => by rw [show p = ((0 : Nat) : Int) by omega]; exact h, Or.inl rfl⟩
  | n + 1, h => by
    by_cases hn : f n = some t
    · obtain ⟨k, h1, h2, h3⟩ := run_ex f t n hn
      refine ⟨k, by omega, fun p p1 p2 => ?_, h3⟩
      by_cases c : p < (n : Int) + 1
      · exact h2 p p1 c
      · rw [show p = ((n + 1 : Nat) : Int) by omega]
        exact h
    · refine ⟨n + 1, Nat.le_refl _, fun p p1 p2 => by rw [show p = ((n + 1 : Nat) : Int) by omega]; exact h, Or.inr ?_⟩
      rw [show ((n + 1 : Nat) : Int) - 1 = (n : Int) by omega]
      exact hn
/-- Of any pages there is a list. -/
theorem til_ex (f : Int → Option Pg) (n : Nat) : n ≤ 4096 → ∃ L, TilA f n L := by
  induction n using Nat.strongRecOn with
  | ind n ih =>
    intro hn
    cases n with
    | zero => exact ⟨[], TilA.nil f⟩
    | succ m =>
      cases hf : f m with
      | none =>
        obtain ⟨L, hL⟩ := ih m (by omega) (by omega)
        exact ⟨L, hL.skip (by omega) fun p h1 h2 => by rw [show p = (m : Int) by omega]; exact hf⟩
      | some t =>
        obtain ⟨k, h1, h2, h3⟩ := run_ex f t m hf
        obtain ⟨L, hL⟩ := ih k (by omega) (by omega)
        exact ⟨_, hL.run (m := ((m + 1 : Nat) : Int)) (by omega) (by omega) (by omega) (fun p p1 p2 => h2 p p1 (by omega)) h3⟩
theorem can_ex (f : Int → Option Pg) : ∃ L, CanA f L := by
  obtain ⟨L, h⟩ := til_ex f 4096 (Nat.le_refl _)
  exact ⟨L, TilA.can h⟩

/-- Whether the i-th may follow. -/
def goodA (L : List AAr) (i : Nat) : Prop := (0 ≤ (L.getD i AAr.zero).a ∧ (L.getD i AAr.zero).a < (L.getD i AAr.zero).b ∧ (L.getD i AAr.zero).b ≤ 4096) ∧ (0 < i → (L.getD (i - 1) AAr.zero).b ≤ (L.getD i AAr.zero).a ∧ ¬ ((L.getD (i - 1) AAr.zero).b = (L.getD i AAr.zero).a ∧ (L.getD (i - 1) AAr.zero).pg = (L.getD i AAr.zero).pg))
theorem take_one (L : List AAr) {i : Nat} (h : i < L.length) (z : AAr) : L.take (i + 1) = L.take i ++ [L.getD i z] := by
  rw [List.take_add_one, List.getD_eq_getElem?_getD, List.getElem?_eq_getElem h]
  rfl
theorem nrm_step {L : List AAr} {i : Nat} (hi : i < L.length) : NrmA (L.take (i + 1)) ↔ NrmA (L.take i) ∧ goodA L i := by
  rw [take_one L hi AAr.zero]
  unfold NrmA goodA
  rw [chn_append, chn_one]
  generalize hd : L.getD i AAr.zero = d
  cases i with
  | zero =>
    simp only [List.take_zero, finA]
    constructor
    · rintro ⟨h1, h2, h3, h4, _⟩
      exact ⟨trivial, ⟨h2, h3, h4⟩, fun h => absurd h (by omega)⟩
    · rintro ⟨_, ⟨h2, h3, h4⟩, _⟩
      exact ⟨trivial, h2, h3, h4, fun _ e => by cases e⟩
  | succ j =>
    rw [take_one L (show j < L.length by omega) AAr.zero, fin_snoc, show j + 1 - 1 = j by omega]
    generalize L.getD j AAr.zero = c
    constructor
    · rintro ⟨h1, h2, h3, h4, h5⟩
      have hc := (chn_le _ _ _ h1).2 c (by simp)
      exact ⟨h1, ⟨by have : c.b ≤ d.a := h2; omega, h3, h4⟩, fun _ => ⟨h2, fun ⟨e1, e2⟩ => h5 e1.symm (by rw [e2])⟩⟩
    · rintro ⟨h1, ⟨h2, h3, h4⟩, h5⟩
      obtain ⟨k1, k2⟩ := h5 (by omega)
      exact ⟨h1, k1, h3, h4, fun e k => k2 ⟨e.symm, by simpa using k⟩⟩
theorem nrm_take {L : List AAr} (h : NrmA L) (i : Nat) : NrmA (L.take i) := by
  have e := List.take_append_drop i L
  have h' : ChnA 0 none (L.take i ++ L.drop i) := by rw [e]; exact h
  exact ((chn_append _ _ _ _).1 h').1
/-- What the i-th has, beside those ahead of it. -/
theorem own_step {L : List AAr} {i : Nat} (hi : i < L.length) (h : NrmA L) (p : Int) : ownA (L.take (i + 1)) p = if (L.getD i AAr.zero).a ≤ p ∧ p < (L.getD i AAr.zero).b then some (L.getD i AAr.zero).pg else ownA (L.take i) p := by
  have h1 := nrm_take h (i + 1)
  rw [take_one L hi AAr.zero] at h1 ⊢
  have h2 := (chn_append _ _ _ _).1 h1
  rw [own_append]
  by_cases c : (L.getD i AAr.zero).a ≤ p ∧ p < (L.getD i AAr.zero).b
  · rw [if_pos c, own_behind h2.1 (by have := (chn_one.1 h2.2).1; omega), own_in c]
    rfl
  · rw [if_neg c, own_out c]
    cases ownA (List.take i L) p <;> rfl

theorem own_mem : ∀ (L : List AAr) (lo : Int) (pr : Option Pg), ChnA lo pr L → ∀ d ∈ L, ∀ p, inA d p → ownA L p = some d.pg
  | [], _, _, _, d, hd, _, _ => by cases hd
  | e :: L, lo, pr, ⟨h1, h2, h3, h4, h5⟩, d, hd, p, hp => by
    rcases List.mem_cons.1 hd with rfl | hd
    · exact own_in hp
    · have := ((chn_le L _ _ h5).2 d hd).1
      rw [own_out (fun k => by have := k.2; have := hp.1; omega)]
      exact own_mem L _ _ h5 d hd p hp
theorem NrmA.own {L : List AAr} (h : NrmA L) {d : AAr} (hd : d ∈ L) {p : Int} (hp : inA d p) : ownA L p = some d.pg := own_mem L _ _ h d hd p hp
theorem nrm_iff_all (L : List AAr) : NrmA L ↔ ∀ i, i < L.length → goodA L i := by
  constructor
  · intro h i hi
    exact ((nrm_step hi).1 (nrm_take h (i + 1))).2
  · intro h
    have key : ∀ i, i ≤ L.length → NrmA (L.take i) := by
      intro i
      induction i with
      | zero => intro _; exact trivial
      | succ i ih => intro hi; exact (nrm_step (by omega)).2 ⟨ih (by omega), h i (by omega)⟩
    have := key L.length (Nat.le_refl _)
    rwa [List.take_length] at this

/-- Laid over some pages (none: cut). -/
def layA (f : Int → Option Pg) (a b : Int) (t : Option Pg) (p : Int) : Option Pg := if a ≤ p ∧ p < b then t else f p
/-- Turned on some pages. -/
def mapA (f : Int → Option Pg) (a b : Int) (g : Pg → Pg) (p : Int) : Option Pg := if a ≤ p ∧ p < b then (f p).map g else f p
theorem layA_in {f : Int → Option Pg} {a b : Int} {t : Option Pg} {p : Int} (h : a ≤ p ∧ p < b) : layA f a b t p = t := if_pos h
theorem layA_out {f : Int → Option Pg} {a b : Int} {t : Option Pg} {p : Int} (h : ¬ (a ≤ p ∧ p < b)) : layA f a b t p = f p := if_neg h
theorem layA_comm (f : Int → Option Pg) {a b c d : Int} (t u : Option Pg) (h : ¬ (a < d ∧ c < b)) (p : Int) : layA (layA f a b t) c d u p = layA (layA f c d u) a b t p := by
  unfold layA
  by_cases h1 : a ≤ p ∧ p < b <;> by_cases h2 : c ≤ p ∧ p < d
  · exact absurd ⟨by omega, by omega⟩ h
  · rw [if_neg h2, if_pos h1, if_pos h1]
  · rw [if_pos h2, if_neg h1, if_pos h2]
  · rw [if_neg h2, if_neg h1, if_neg h1, if_neg h2]
theorem layA_twice (f : Int → Option Pg) (a b : Int) (t : Option Pg) (p : Int) : layA (layA f a b t) a b t p = layA f a b t p := by
  unfold layA
  by_cases h1 : a ≤ p ∧ p < b
  · rw [if_pos h1, if_pos h1]
  · rw [if_neg h1, if_neg h1]
theorem can_none {f : Int → Option Pg} {M : List AAr} (h : CanA f M) (hf : ∀ p : Int, 0 ≤ p → p < 4096 → f p = none) : M = [] :=
  CanA.uniq h ⟨trivial, fun p h1 h2 => (hf p h1 h2).symm⟩
theorem CanA.lay {f g : Int → Option Pg} {L M : List AAr} {a b : Int} {t : Option Pg} (h : CanA (layA f a b t) M) (hL : CanA g L) (hf : ∀ p : Int, 0 ≤ p → p < 4096 → f p = g p) : CanA (layA (ownA L) a b t) M :=
  h.congr fun p h1 h2 => by
    unfold layA
    rw [hf p h1 h2, hL.2 p h1 h2]

/-- Room for n pages from z on. -/
def roomA (f : Int → Option Pg) (n z : Int) : Prop := 0 ≤ z ∧ z + n ≤ 4096 ∧ ∀ p, z ≤ p → p < z + n → f p = none
/-- The lowest room; below 0: there is none. -/
def RoomP (f : Int → Option Pg) (n z : Int) : Prop := (roomA f n z ∧ ∀ y, roomA f n y → z ≤ y) ∨ (z = -1 ∧ ∀ y, ¬ roomA f n y)
theorem RoomP.uniq {f : Int → Option Pg} {n z y : Int} (h : RoomP f n z) (h' : RoomP f n y) : z = y := by
  rcases h with ⟨h1, h2⟩ | ⟨h1, h2⟩ <;> rcases h' with ⟨k1, k2⟩ | ⟨k1, k2⟩
  · have := h2 y k1
    have := k2 z h1
    omega
  · exact absurd h1 (k2 z)
  · exact absurd k1 (h2 y)
  · omega
theorem roomA.congr {f g : Int → Option Pg} {n z : Int} (h : roomA f n z) (e : ∀ p : Int, 0 ≤ p → p < 4096 → f p = g p) : roomA g n z :=
  ⟨h.1, h.2.1, fun p h1 h2 => by rw [← e p (by have := h.1; omega) (by have := h.2.1; omega)]; exact h.2.2 p h1 h2⟩
theorem RoomP.congr {f g : Int → Option Pg} {n z : Int} (h : RoomP f n z) (e : ∀ p : Int, 0 ≤ p → p < 4096 → f p = g p) : RoomP g n z := by
  rcases h with ⟨h1, h2⟩ | ⟨h1, h2⟩
  · exact Or.inl ⟨h1.congr e, fun y hy => h2 y (hy.congr fun p a b => (e p a b).symm)⟩
  · exact Or.inr ⟨h1, fun y hy => h2 y (hy.congr fun p a b => (e p a b).symm)⟩
/-- How many pages ahead of i have nothing, side by side. -/
def RunA (f : Int → Option Pg) (i n : Int) : Prop := 0 ≤ n ∧ n ≤ i ∧ (∀ p, i - n ≤ p → p < i → f p = none) ∧ (n = i ∨ f (i - n - 1) ≠ none)
/-- No room ends at i or ahead of it. -/
def NoRoom (f : Int → Option Pg) (n i : Int) : Prop := ∀ y, roomA f n y → i < y + n
theorem RunA.zero (f : Int → Option Pg) : RunA f 0 0 := ⟨Int.le_refl _, Int.le_refl _, fun p h1 h2 => by omega, Or.inl rfl⟩
theorem NoRoom.zero (f : Int → Option Pg) {n : Int} (h : 1 ≤ n) : NoRoom f n 0 := fun y hy => by have := hy.1; omega
theorem RunA.free {f : Int → Option Pg} {i n : Int} (h : RunA f i n) (hf : f i = none) : RunA f (i + 1) (n + 1) := by
  obtain ⟨h1, h2, h3, h4⟩ := h
  refine ⟨by omega, by omega, fun p a b => ?_, ?_⟩
  · by_cases c : p < i
    · exact h3 p (by omega) c
    · rw [show p = i by omega]
      exact hf
  · rcases h4 with h4 | h4
    · exact Or.inl (by omega)
    · refine Or.inr ?_
      rwa [show i + 1 - (n + 1) - 1 = i - n - 1 by omega]
theorem RunA.taken {f : Int → Option Pg} {i n : Int} (h : RunA f i n) (hf : f i ≠ none) : RunA f (i + 1) 0 :=
  ⟨Int.le_refl _, by have := h.1; have := h.2.1; omega, fun p a b => by omega, Or.inr (by rwa [show i + 1 - 0 - 1 = i by omega])⟩
theorem RunA.found {f : Int → Option Pg} {i n : Int} (h : RunA f (i + 1) n) (hn : NoRoom f n i) (hi : i < 4096) : RoomP f n (i + 1 - n) := by
  obtain ⟨h1, h2, h3, h4⟩ := h
  exact Or.inl ⟨⟨by omega, by omega, fun p a b => h3 p a (by omega)⟩, fun y hy => by have := hn y hy; omega⟩
theorem RunA.less {f : Int → Option Pg} {i m n : Int} (h : RunA f (i + 1) m) (hn : NoRoom f n i) (hm : m < n) : NoRoom f n (i + 1) := fun y hy => by
  have h0 := hn y hy
  obtain ⟨h1, h2, h3, h4⟩ := h
  by_cases c : y + n = i + 1
  · have hy0 := hy.1
    rcases h4 with h4 | h4
    · omega
    · exact absurd (hy.2.2 (i + 1 - m - 1) (by omega) (by omega)) h4
  · omega
theorem NoRoom.done {f : Int → Option Pg} {n : Int} (h : NoRoom f n 4096) : RoomP f n (-1) := Or.inr ⟨rfl, fun y hy => by have := h y hy; have := hy.2.1; omega⟩
/-- By a list's gaps: what lies between two of its areas. -/
theorem gap_free {L : List AAr} {i : Nat} (hi : i < L.length) (h : NrmA L) {p : Int} (h1 : (finA 0 none (L.take i)).1 ≤ p) (h2 : p < (L.getD i AAr.zero).a) : ownA L p = none := by
  have e := List.take_append_drop i L
  have h' : ChnA 0 none (L.take i ++ L.drop i) := by rw [e]; exact h
  have k := (chn_append _ _ _ _).1 h'
  have ed : L.drop i = L.getD i AAr.zero :: L.drop (i + 1) := by
    rw [List.getD_eq_getElem?_getD, List.getElem?_eq_getElem hi, Option.getD_some, List.drop_eq_getElem_cons hi]
  have k2 := k.2
  rw [ed] at k2
  rw [← e, own_append, own_behind k.1 h1, ed, own_out (fun x => by have := x.1; omega), own_below k2.2.2.2.2 (by have := k2.2.1; omega)]
  rfl
end Go.Proofs.Ytoimmapdkapheaa
