/- What of a list lies within; side by side; whether it covers; where there is room. No word of the program. -/
import Derived.Test.YtoimmapdkapheaaAMath
namespace Go.Proofs.Ytoimmapdkapheaa
set_option maxRecDepth 4000
open Go.RowKit

/-- It rises, from lo on; what touches may be alike. -/
def RisA (lo : Int) (L : List AAr) : Prop := match L with
  | [] => True
  | d :: L => lo ≤ d.a ∧ d.a < d.b ∧ d.b ≤ 4096 ∧ RisA d.b L
theorem ChnA.ris : ∀ (L : List AAr) (lo : Int) (pr : Option Pg), ChnA lo pr L → RisA lo L
  | [], _, _, _ => trivial
  | _ :: L, _, _, ⟨h1, h2, h3, _, h5⟩ => ⟨h1, h2, h3, ChnA.ris L _ _ h5⟩
theorem RisA.mono : ∀ {L : List AAr} {lo lo' : Int}, RisA lo L → lo' ≤ lo → RisA lo' L
  | [], _, _, _, _ => trivial
  | _ :: _, _, _, ⟨h1, h2, h3, h4⟩, h => ⟨Int.le_trans h h1, h2, h3, h4⟩
/-- Where it ends. -/
def endA (lo : Int) (L : List AAr) : Int := match L with
  | [] => lo
  | d :: L => endA d.b L
theorem ris_append : ∀ (L M : List AAr) (lo : Int), RisA lo (L ++ M) ↔ RisA lo L ∧ RisA (endA lo L) M
  | [], M, lo => ⟨fun h => ⟨trivial, h⟩, fun h => h.2⟩
  | d :: L, M, lo => by
    simp only [List.cons_append, RisA, endA]
    rw [ris_append L M d.b]
    constructor
    · rintro ⟨a, b, c, d, e⟩; exact ⟨⟨a, b, c, d⟩, e⟩
    · rintro ⟨⟨a, b, c, d⟩, e⟩; exact ⟨a, b, c, d, e⟩
theorem RisA.low : ∀ {L : List AAr} {lo : Int}, RisA lo L → ∀ p, p < lo → ownA L p = none
  | [], _, _, _, _ => rfl
  | d :: L, lo, ⟨h1, h2, h3, h4⟩, p, hp => by
    rw [own_out (fun k => by have := k.1; omega)]
    exact RisA.low h4 p (by omega)
theorem RisA.end_le : ∀ {L : List AAr} {lo : Int}, RisA lo L → lo ≤ endA lo L
  | [], _, _ => Int.le_refl _
  | d :: L, lo, ⟨h1, h2, h3, h4⟩ => by
    have := RisA.end_le h4
    simp only [endA]
    omega
theorem end_all : ∀ (L : List AAr) (lo t : Int), lo ≤ t → (∀ d ∈ L, d.b ≤ t) → endA lo L ≤ t
  | [], _, _, h, _ => h
  | d :: L, _, t, _, h => end_all L d.b t (h d List.mem_cons_self) fun x hx => h x (List.mem_cons_of_mem _ hx)

/-- What of one lies from f on up to t. -/
def clip1 (f t : Int) (d : AAr) : List AAr := if max d.a f < min d.b t then [⟨max d.a f, min d.b t, d.w, d.x, d.h⟩] else []
def clipA (f t : Int) (L : List AAr) : List AAr := L.flatMap (clip1 f t)
theorem clip_cons (f t : Int) (d : AAr) (L : List AAr) : clipA f t (d :: L) = clip1 f t d ++ clipA f t L := by simp [clipA]
theorem clip_snoc (f t : Int) (L : List AAr) (d : AAr) : clipA f t (L ++ [d]) = clipA f t L ++ clip1 f t d := by simp [clipA]
theorem clip1_le (f t : Int) (d : AAr) : (clip1 f t d).length ≤ 1 := by
  unfold clip1
  split <;> simp
theorem clip_len (f t : Int) : ∀ L : List AAr, (clipA f t L).length ≤ L.length
  | [] => Nat.le_refl _
  | d :: L => by
    rw [clip_cons, List.length_append, List.length_cons]
    have := clip1_le f t d
    have := clip_len f t L
    omega
theorem clip_mem {f t : Int} {L : List AAr} {e : AAr} (h : e ∈ clipA f t L) : f ≤ e.a ∧ e.b ≤ t := by
  obtain ⟨d, _, hd⟩ := List.mem_flatMap.1 h
  unfold clip1 at hd
  split at hd
  · obtain rfl := List.mem_singleton.1 hd
    exact ⟨Int.le_max_right _ _, Int.min_le_right _ _⟩
  · cases hd
theorem clip_ris (f t : Int) : ∀ (L : List AAr) (lo : Int), RisA lo L → RisA (max lo f) (clipA f t L)
  | [], _, _ => trivial
  | d :: L, lo, ⟨h1, h2, h3, h4⟩ => by
    have ih := clip_ris f t L d.b h4
    rw [clip_cons]
    unfold clip1
    split
    · next c =>
      refine ⟨by show max lo f ≤ max d.a f; omega, c, by show min d.b t ≤ 4096; omega, ih.mono ?_⟩
      show min d.b t ≤ max d.b f
      omega
    · exact ih.mono (by omega)
theorem clip_own (f t : Int) : ∀ (L : List AAr) (p : Int), ownA (clipA f t L) p = if f ≤ p ∧ p < t then ownA L p else none
  | [], p => by simp [clipA, ownA]
  | d :: L, p => by
    have ih := clip_own f t L p
    rw [clip_cons, own_append, ih]
    by_cases hd : inA d p
    · rw [own_in hd]
      have h1 : d.a ≤ p := hd.1
      have h2 : p < d.b := hd.2
      unfold clip1
      by_cases c : f ≤ p ∧ p < t
      · rw [if_pos c, if_pos (by omega), own_in ⟨by show max d.a f ≤ p; omega, by show p < min d.b t; omega⟩, if_pos c]
        rfl
      · rw [if_neg c, if_neg c]
        split
        · rw [own_out (fun k => by have k1 : max d.a f ≤ p := k.1; have k2 : p < min d.b t := k.2; omega)]
          rfl
        · rfl
    · rw [own_out hd]
      have e : ownA (clip1 f t d) p = none := by
        unfold clip1
        split
        · rw [own_out (fun k => hd ⟨by have k1 : max d.a f ≤ p := k.1; show d.a ≤ p; omega, by have k2 : p < min d.b t := k.2; show p < d.b; omega⟩)]
          rfl
        · rfl
      rw [e]
      cases (if f ≤ p ∧ p < t then ownA L p else none) <;> rfl

/-- Two are one. -/
def oneB (c d : AAr) : Bool := decide (c.b = d.a) && (c.w == d.w && c.x == d.x) && c.h == d.h
theorem oneB_iff (c d : AAr) : oneB c d = true ↔ c.b = d.a ∧ c.pg = d.pg := by
  simp [oneB, AAr.pg, and_assoc]
/-- One behind the others. -/
def glueB (acc : List AAr) (d : AAr) : Bool := decide (0 < acc.length) && oneB (acc.getD (acc.length - 1) AAr.zero) d
def stpA (acc : List AAr) (d : AAr) : List AAr :=
  if glueB acc d = true then acc.set (acc.length - 1) ⟨(acc.getD (acc.length - 1) AAr.zero).a, d.b, (acc.getD (acc.length - 1) AAr.zero).w, (acc.getD (acc.length - 1) AAr.zero).x, (acc.getD (acc.length - 1) AAr.zero).h⟩ else acc ++ [d]
def mrgA (acc X : List AAr) : List AAr := X.foldl stpA acc
theorem mrg_nil (acc : List AAr) : mrgA acc [] = acc := rfl
theorem mrg_append (acc X Y : List AAr) : mrgA acc (X ++ Y) = mrgA (mrgA acc X) Y := List.foldl_append ..
theorem mrg_one (acc : List AAr) (d : AAr) : mrgA acc [d] = stpA acc d := rfl
theorem stp_len (acc : List AAr) (d : AAr) : (stpA acc d).length ≤ acc.length + 1 := by
  unfold stpA
  split <;> simp
theorem mrg_len : ∀ (X acc : List AAr), (mrgA acc X).length ≤ acc.length + X.length
  | [], acc => Nat.le_refl _
  | d :: X, acc => by
    have h1 := mrg_len X (stpA acc d)
    have h2 := stp_len acc d
    show (mrgA (stpA acc d) X).length ≤ _
    simp only [List.length_cons]
    omega
theorem stp_nil (d : AAr) : stpA [] d = [d] := rfl
theorem stp_snoc (L : List AAr) (c d : AAr) : stpA (L ++ [c]) d = if oneB c d = true then L ++ [⟨c.a, d.b, c.w, c.x, c.h⟩] else L ++ [c] ++ [d] := by
  have e : (L ++ [c]).getD ((L ++ [c]).length - 1) AAr.zero = c := by simp
  unfold stpA glueB
  rw [e]
  have e2 : decide (0 < (L ++ [c]).length) = true := by simp
  rw [e2, Bool.true_and]
  by_cases h : oneB c d = true
  · rw [if_pos h, if_pos h]
    simp
  · rw [if_neg h, if_neg h]
theorem stp_step {acc : List AAr} {d : AAr} (h : NrmA acc) (he : (finA 0 none acc).1 ≤ d.a) (h0 : 0 ≤ d.a) (h1 : d.a < d.b) (h2 : d.b ≤ 4096) : NrmA (stpA acc d) ∧ (finA 0 none (stpA acc d)).1 ≤ d.b ∧ ∀ p, ownA (stpA acc d) p = (ownA acc p).or (ownA [d] p) := by
  rcases acc.eq_nil_or_concat with rfl | ⟨L, c, rfl⟩
  · rw [stp_nil]
    exact ⟨chn_one.2 ⟨h0, h1, h2, fun _ k => by cases k⟩, Int.le_refl _, fun p => by rw [own_nil]; rfl⟩
  · rw [List.concat_eq_append] at *
    rw [stp_snoc]
    rw [fin_snoc] at he
    simp only at he
    have hc := (chn_append _ _ _ _).1 h
    have hc1 := chn_one.1 hc.2
    by_cases k : oneB c d = true
    · rw [if_pos k]
      obtain ⟨k1, k2⟩ := (oneB_iff c d).1 k
      refine ⟨(chn_append _ _ _ _).2 ⟨hc.1, chn_one.2 ⟨hc1.1, by show c.a < d.b; omega, h2, hc1.2.2.2⟩⟩, by rw [fin_snoc]; exact Int.le_refl _, fun p => ?_⟩
      rw [own_append, own_append]
      cases ho : ownA L p with
      | some x => rfl
      | none =>
        by_cases c1 : inA c p
        · rw [own_in c1, own_in (show inA ⟨c.a, d.b, c.w, c.x, c.h⟩ p from ⟨c1.1, by have := c1.2; show p < d.b; omega⟩)]
          rfl
        · rw [own_out c1, own_nil]
          by_cases c2 : inA d p
          · rw [own_in c2, own_in (show inA ⟨c.a, d.b, c.w, c.x, c.h⟩ p from ⟨by have := c2.1; show c.a ≤ p; omega, c2.2⟩)]
            show some c.pg = some d.pg
            rw [k2]
          · rw [own_out c2, own_out (fun q => by
              have q1 : c.a ≤ p := q.1
              have q2 : p < d.b := q.2
              by_cases q3 : p < c.b
              · exact c1 ⟨q1, q3⟩
              · exact c2 ⟨by omega, q2⟩)]
            rfl
    · rw [if_neg k]
      refine ⟨(chn_append _ _ _ _).2 ⟨h, ?_⟩, by rw [fin_snoc]; exact Int.le_refl _, fun p => own_append _ _ _⟩
      rw [fin_snoc]
      exact chn_one.2 ⟨he, h1, h2, fun e q => k ((oneB_iff c d).2 ⟨e.symm, by simpa using q⟩)⟩
theorem mrg_nrm : ∀ (X acc : List AAr) (lo : Int), NrmA acc → 0 ≤ lo → (finA 0 none acc).1 ≤ lo → RisA lo X → NrmA (mrgA acc X) ∧ ∀ p, ownA (mrgA acc X) p = (ownA acc p).or (ownA X p)
  | [], acc, lo, h, _, _, _ => ⟨h, fun p => by rw [mrg_nil, own_nil]; cases ownA acc p <;> rfl⟩
  | d :: X, acc, lo, h, h0, he, ⟨r1, r2, r3, r4⟩ => by
    obtain ⟨s1, s2, s3⟩ := stp_step h (show _ ≤ d.a by omega) (by omega) r2 r3
    obtain ⟨i1, i2⟩ := mrg_nrm X (stpA acc d) d.b s1 (by omega) s2 r4
    refine ⟨i1, fun p => ?_⟩
    show ownA (mrgA (stpA acc d) X) p = _
    rw [i2, s3, show d :: X = [d] ++ X from rfl, own_append [d] X]
    cases ownA acc p <;> cases ownA [d] p <;> rfl

/-- A list laid out of three. -/
def layX (L : List AAr) (a b : Int) (m : List AAr) : List AAr := clipA 0 a L ++ m ++ clipA b 4096 L
theorem layX_ris {L m : List AAr} {a b : Int} (h : NrmA L) (ha : 0 ≤ a) (hab : a ≤ b) (hm : RisA a m) (hme : ∀ d ∈ m, d.b ≤ b) : RisA 0 (layX L a b m) := by
  have hr := ChnA.ris L 0 none h
  unfold layX
  rw [ris_append, ris_append]
  have e1 : endA 0 (clipA 0 a L) ≤ a := end_all _ _ _ ha fun d hd => (clip_mem hd).2
  refine ⟨⟨(clip_ris 0 a L 0 hr).mono (by omega), hm.mono e1⟩, ?_⟩
  have hp : RisA b (clipA b 4096 L) := (clip_ris b 4096 L 0 hr).mono (by omega)
  refine hp.mono (end_all _ _ _ (by omega) fun d hd => ?_)
  rcases List.mem_append.1 hd with k | k
  · have := (clip_mem k).2; omega
  · exact hme d k
theorem layX_own {L m : List AAr} {a b : Int} (hab : a ≤ b) (p : Int) (h0 : 0 ≤ p) (h1 : p < 4096) (hm : ∀ p, ¬ (a ≤ p ∧ p < b) → ownA m p = none) : ownA (layX L a b m) p = if a ≤ p ∧ p < b then ownA m p else ownA L p := by
  unfold layX
  rw [own_append, own_append, clip_own, clip_own]
  by_cases c : a ≤ p ∧ p < b
  · rw [if_pos c, if_neg (by omega), if_neg (by omega)]
    cases ownA m p <;> rfl
  · rw [if_neg c, hm p c]
    by_cases c1 : p < a
    · rw [if_pos ⟨h0, c1⟩, if_neg (by omega)]
      cases ownA L p <;> rfl
    · rw [if_neg (by omega), if_pos ⟨by omega, h1⟩]
      rfl
theorem layX_len (L m : List AAr) (a b : Int) : (layX L a b m).length ≤ 2 * L.length + m.length := by
  unfold layX
  have h1 := clip_len 0 a L
  have h2 := clip_len b 4096 L
  simp only [List.length_append]
  omega
/-- What the list becomes. -/
def layM (L : List AAr) (a b : Int) (m : List AAr) : List AAr := mrgA [] (layX L a b m)
theorem lay_can {L m : List AAr} {a b : Int} {f : Int → Option Pg} (h : NrmA L) (ha : 0 ≤ a) (hab : a ≤ b) (hm : RisA a m) (hme : ∀ d ∈ m, d.b ≤ b) (hf : ∀ p : Int, 0 ≤ p → p < 4096 → f p = if a ≤ p ∧ p < b then ownA m p else ownA L p) : CanA f (layM L a b m) := by
  obtain ⟨h1, h2⟩ := mrg_nrm (layX L a b m) [] 0 trivial (Int.le_refl _) (Int.le_refl _) (layX_ris h ha hab hm hme)
  refine ⟨h1, fun p p0 p1 => ?_⟩
  unfold layM
  rw [h2, own_nil, layX_own hab p p0 p1 ?_, hf p p0 p1]
  · rfl
  · intro q hq
    by_cases c : q < a
    · exact hm.low q c
    · rw [own_none_iff]
      intro d hd k
      have := hme d hd
      have := k.2
      omega
/-- An area laid over; pages cut out; rights laid over. -/
theorem can_lay {L : List AAr} {d : AAr} (h : NrmA L) (h0 : 0 ≤ d.a) (h1 : d.a < d.b) (h2 : d.b ≤ 4096) : CanA (layA (ownA L) d.a d.b (some d.pg)) (layM L d.a d.b [d]) :=
  lay_can h h0 (by omega) ⟨Int.le_refl _, h1, h2, trivial⟩ (fun e he => by obtain rfl := List.mem_singleton.1 he; exact Int.le_refl _) fun p _ _ => by
    unfold layA
    by_cases c : d.a ≤ p ∧ p < d.b
    · rw [if_pos c, if_pos c, own_in c]
    · rw [if_neg c, if_neg c]
theorem can_cut {L : List AAr} {a b : Int} (h : NrmA L) (h0 : 0 ≤ a) (h1 : a < b) : CanA (layA (ownA L) a b none) (layM L a b []) :=
  lay_can h h0 (by omega) trivial (fun e he => by cases he) fun p _ _ => by
    unfold layA
    by_cases c : a ≤ p ∧ p < b
    · rw [if_pos c, if_pos c]; rfl
    · rw [if_neg c, if_neg c]
def AAr.turn (g : Pg → Pg) (d : AAr) : AAr := AAr.of d.a d.b (g d.pg)
theorem turn_ris (g : Pg → Pg) : ∀ {L : List AAr} {lo : Int}, RisA lo L → RisA lo (L.map (AAr.turn g))
  | [], _, _ => trivial
  | _ :: _, _, ⟨h1, h2, h3, h4⟩ => ⟨h1, h2, h3, turn_ris g h4⟩
theorem turn_own (g : Pg → Pg) : ∀ (L : List AAr) (p : Int), ownA (L.map (AAr.turn g)) p = (ownA L p).map g
  | [], _ => rfl
  | d :: L, p => by
    rw [List.map_cons]
    by_cases c : inA d p
    · rw [own_in c, own_in (show inA (d.turn g) p from c)]
      rfl
    · rw [own_out c, own_out (show ¬ inA (d.turn g) p from c)]
      exact turn_own g L p
theorem can_map {L : List AAr} {a b : Int} (g : Pg → Pg) (h : NrmA L) (h0 : 0 ≤ a) (h1 : a < b) : CanA (mapA (ownA L) a b g) (layM L a b ((clipA a b L).map (AAr.turn g))) :=
  lay_can h h0 (by omega) (turn_ris g ((clip_ris a b L 0 (ChnA.ris L 0 none h)).mono (by omega))) (fun e he => by
    obtain ⟨d, hd, rfl⟩ := List.mem_map.1 he
    exact (clip_mem hd).2) fun p _ _ => by
    unfold mapA
    rw [turn_own, clip_own]
    by_cases c : a ≤ p ∧ p < b
    · rw [if_pos c, if_pos c, if_pos c]
    · rw [if_neg c, if_neg c]

/-- Whether areas leave no page out. -/
def covA (f t : Int) : List AAr → Bool
  | [] => decide (f = t)
  | d :: L => if d.a = f then covA d.b t L else false
theorem cov_iff (t : Int) : ∀ (L : List AAr) (f : Int), f ≤ t → RisA f L → (∀ d ∈ L, d.b ≤ t) → (covA f t L = true ↔ ∀ p, f ≤ p → p < t → ownA L p ≠ none)
  | [], f, h, _, _ => by
    simp only [covA, decide_eq_true_eq]
    exact ⟨fun e p h1 h2 => by omega, fun k => by
      by_cases c : f = t
      · exact c
      · exact absurd rfl (k f (Int.le_refl _) (by omega))⟩
  | d :: L, f, h, ⟨h1, h2, h3, h4⟩, hb => by
    have hd := hb d List.mem_cons_self
    have ih := cov_iff t L d.b hd h4 fun x hx => hb x (List.mem_cons_of_mem _ hx)
    unfold covA
    by_cases c : d.a = f
    · rw [if_pos c, ih]
      constructor
      · intro k p p1 p2
        by_cases q : p < d.b
        · rw [own_in ⟨by omega, q⟩]; simp
        · rw [own_out (fun x => q x.2)]
          exact k p (by omega) p2
      · intro k p p1 p2
        have := k p (by omega) p2
        rwa [own_out (fun x => by have := x.2; omega)] at this
    · rw [if_neg c]
      refine ⟨fun k => by simp at k, fun k => ?_⟩
      have := k f (Int.le_refl _) (by omega)
      rw [own_out (fun x => by have := x.1; omega), RisA.low h4 f (by omega)] at this
      exact absurd rfl this
theorem cov_clip {L : List AAr} {a b : Int} (h : NrmA L) (h0 : 0 ≤ a) (h1 : a < b) : covA a b (clipA a b L) = true ↔ ∀ p, a ≤ p → p < b → ownA L p ≠ none := by
  rw [cov_iff b _ a (by omega) ((clip_ris a b L 0 (ChnA.ris L 0 none h)).mono (by omega)) fun d hd => (clip_mem hd).2]
  constructor
  · intro k p p1 p2
    have := k p p1 p2
    rwa [clip_own, if_pos ⟨p1, p2⟩] at this
  · intro k p p1 p2
    rw [clip_own, if_pos ⟨p1, p2⟩]
    exact k p p1 p2

/-- A page's own area. -/
def fndA (p : Int) : List AAr → Option AAr
  | [] => none
  | d :: L => if d.a ≤ p ∧ p < d.b then some d else fndA p L
theorem fnd_own (p : Int) : ∀ L : List AAr, (fndA p L).map AAr.pg = ownA L p
  | [] => rfl
  | d :: L => by
    unfold fndA ownA
    by_cases c : d.a ≤ p ∧ p < d.b
    · rw [if_pos c, if_pos c]; rfl
    · rw [if_neg c, if_neg c]; exact fnd_own p L
theorem fnd_mem {p : Int} : ∀ {L : List AAr} {d : AAr}, fndA p L = some d → d ∈ L ∧ d.a ≤ p ∧ p < d.b
  | [], _, h => by cases h
  | e :: L, d, h => by
    unfold fndA at h
    by_cases c : e.a ≤ p ∧ p < e.b
    · rw [if_pos c] at h
      cases h
      exact ⟨List.mem_cons_self, c⟩
    · rw [if_neg c] at h
      have := fnd_mem h
      exact ⟨List.mem_cons_of_mem _ this.1, this.2⟩

/-- Where there is room for n pages; below 0: nowhere. -/
def rmA (n : Int) : Int → List AAr → Int
  | f, [] => if 4096 - f < n then -1 else f
  | f, d :: L => if n ≤ d.a - f then f else rmA n d.b L
theorem rm_room (n : Int) (hn : 1 ≤ n) (G : Int → Option Pg) : ∀ (L : List AAr) (f : Int), 0 ≤ f → f ≤ 4096 → RisA f L → (∀ p, f ≤ p → p < 4096 → G p = ownA L p) → (∀ y, roomA G n y → f ≤ y) → RoomP G n (rmA n f L)
  | [], f, h0, h1, _, hg, hy => by
    unfold rmA
    by_cases c : 4096 - f < n
    · rw [if_pos c]
      exact Or.inr ⟨rfl, fun y k => by have := hy y k; have := k.2.1; omega⟩
    · rw [if_neg c]
      exact Or.inl ⟨⟨h0, by omega, fun p p1 p2 => by rw [hg p p1 (by omega)]; rfl⟩, hy⟩
  | d :: L, f, h0, h1, ⟨r1, r2, r3, r4⟩, hg, hy => by
    unfold rmA
    by_cases c : n ≤ d.a - f
    · rw [if_pos c]
      exact Or.inl ⟨⟨h0, by omega, fun p p1 p2 => by
        rw [hg p p1 (by omega), own_out (fun x => by have := x.1; omega)]
        exact RisA.low r4 p (by omega)⟩, hy⟩
    · rw [if_neg c]
      refine rm_room n hn G L d.b (by omega) r3 r4 (fun p p1 p2 => by rw [hg p (by omega) p2, own_out (fun x => by have := x.2; omega)]) fun y k => ?_
      have h2 := hy y k
      by_cases q : d.b ≤ y
      · exact q
      · exfalso
        have hk := k.2.2
        by_cases q2 : d.a ≤ y
        · have := hk y (Int.le_refl _) (by omega)
          rw [hg y h2 (by omega), own_in ⟨q2, by omega⟩] at this
          cases this
        · have := hk d.a (by omega) (by omega)
          rw [hg d.a (by omega) (by omega), own_in ⟨Int.le_refl _, r2⟩] at this
          cases this
theorem rm_spec {L : List AAr} {n : Int} (h : NrmA L) (hn : 1 ≤ n) : RoomP (ownA L) n (rmA n 0 L) :=
  rm_room n hn (ownA L) L 0 (Int.le_refl _) (by omega) (ChnA.ris L 0 none h) (fun _ _ _ => rfl) fun y k => k.1
theorem drop_cons (L : List AAr) {k : Nat} (h : k < L.length) : L.drop k = L.getD k AAr.zero :: L.drop (k + 1) := by
  rw [List.getD_eq_getElem?_getD, List.getElem?_eq_getElem h, Option.getD_some, List.drop_eq_getElem_cons h]
/-- May a list be? -/
def MayA (L : List AAr) : Prop := L.length ≤ 64 ∧ NrmA L
def SpanA (a b : Int) : Prop := 0 ≤ a ∧ a < b ∧ b ≤ 4096
end Go.Proofs.Ytoimmapdkapheaa
