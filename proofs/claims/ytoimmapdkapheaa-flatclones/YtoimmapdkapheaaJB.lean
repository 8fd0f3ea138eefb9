/- Own texts, joined: AMath2, APg, ALeaf, AChk, ASpan, AFind, ARoom, AWit, ACov, ASide. -/
import Derived.Test.YtoimmapdkapheaaJA
import Derived.Laws.StructEq
import Derived.Deep.CutRange
import Derived.Laws.ResultCell
/- What of a list lies within; side by side; whether it covers; where there is room. No word of the program. -/
namespace Go.Proofs.Ytoimmapdkapheaa
set_option maxRecDepth 4000
open Go.RowKit

/-- It rises, from lo on; what touches may be alike. -/
def RisA (lo : Int) (L : List AAr) : Prop := match L with
  | [] => True
  | d :: L => lo ≤ d.a ∧ d.a < d.b ∧ d.b ≤ 4096 ∧ RisA d.b L
theorem ChnA.ris : ∀ (L : List AAr) (lo : Int) (pr : Option Pg), ChnA lo pr L → RisA lo L
  | [], _, _, _ => trivial
  | _ :: L, _, _, ⟨h1, h2, h3, _, h5⟩ => ⟨h1, h2, h3, ChnA.ris L _ _ h5⟩
theorem RisA.mono : ∀ {L : List AAr} {lo lo' : Int}, RisA lo L → lo' ≤ lo → RisA lo' L
  | [], _, _, _, _ => trivial
  | _ :: _, _, _, ⟨h1, h2, h3, h4⟩, h => ⟨Int.le_trans h h1, h2, h3, h4⟩
/-- Where it ends. -/
def endA (lo : Int) (L : List AAr) : Int := match L with
  | [] => lo
  | d :: L => endA d.b L
theorem ris_append : ∀ (L M : List AAr) (lo : Int), RisA lo (L ++ M) ↔ RisA lo L ∧ RisA (endA lo L) M
  | [], M, lo => ⟨fun h => ⟨trivial, h⟩, fun h => h.2⟩
  | d :: L, M, lo => by
    simp only [List.cons_append, RisA, endA]
    rw [ris_append L M d.b]
    constructor
    · rintro ⟨a, b, c, d, e⟩; exact ⟨⟨a, b, c, d⟩, e⟩
    · rintro ⟨⟨a, b, c, d⟩, e⟩; exact ⟨a, b, c, d, e⟩
theorem RisA.low : ∀ {L : List AAr} {lo : Int}, RisA lo L → ∀ p, p < lo → ownA L p = none
  | [], _, _, _, _ => rfl
  | d :: L, lo, ⟨h1, h2, h3, h4⟩, p, hp => by
    rw [own_out (fun k => by have := k.1; omega)]
    exact RisA.low h4 p (by omega)
theorem RisA.end_le : ∀ {L : List AAr} {lo : Int}, RisA lo L → lo ≤ endA lo L
  | [], _, _ => Int.le_refl _
  | d :: L, lo, ⟨h1, h2, h3, h4⟩ => by
    have := RisA.end_le h4
    simp only [endA]
    omega
theorem end_all : ∀ (L : List AAr) (lo t : Int), lo ≤ t → (∀ d ∈ L, d.b ≤ t) → endA lo L ≤ t
  | [], _, _, h, _ => h
  | d :: L, _, t, _, h => end_all L d.b t (h d List.mem_cons_self) fun x hx => h x (List.mem_cons_of_mem _ hx)

/-- What of one lies from f on up to t. -/
def clip1 (f t : Int) (d : AAr) : List AAr := if max d.a f < min d.b t then [⟨max d.a f, min d.b t, d.w, d.x, d.h⟩] else []
def clipA (f t : Int) (L : List AAr) : List AAr := L.flatMap (clip1 f t)
theorem clip_cons (f t : Int) (d : AAr) (L : List AAr) : clipA f t (d :: L) = clip1 f t d ++ clipA f t L := by simp [clipA]
theorem clip_snoc (f t : Int) (L : List AAr) (d : AAr) : clipA f t (L ++ [d]) = clipA f t L ++ clip1 f t d := by simp [clipA]
theorem clip1_le (f t : Int) (d : AAr) : (clip1 f t d).length ≤ 1 := by
  unfold clip1
  split <;> simp
theorem clip_len (f t : Int) : ∀ L : List AAr, (clipA f t L).length ≤ L.length
  | [] => Nat.le_refl _
  | d :: L => by
    rw [clip_cons, List.length_append, List.length_cons]
    have := clip1_le f t d
    have := clip_len f t L
    omega
theorem clip_mem {f t : Int} {L : List AAr} {e : AAr} (h : e ∈ clipA f t L) : f ≤ e.a ∧ e.b ≤ t := by
  obtain ⟨d, _, hd⟩ := List.mem_flatMap.1 h
  unfold clip1 at hd
  split at hd
  · obtain rfl := List.mem_singleton.1 hd
    exact ⟨Int.le_max_right _ _, Int.min_le_right _ _⟩
  · cases hd
theorem clip_ris (f t : Int) : ∀ (L : List AAr) (lo : Int), RisA lo L → RisA (max lo f) (clipA f t L)
  | [], _, _ => trivial
  | d :: L, lo, ⟨h1, h2, h3, h4⟩ => by
    have ih := clip_ris f t L d.b h4
    rw [clip_cons]
    unfold clip1
    split
    · next c =>
      refine ⟨by show max lo f ≤ max d.a f; omega, c, by show min d.b t ≤ 4096; omega, ih.mono ?_⟩
      show min d.b t ≤ max d.b f
      omega
    · exact ih.mono (by omega)
theorem clip_own (f t : Int) : ∀ (L : List AAr) (p : Int), ownA (clipA f t L) p = if f ≤ p ∧ p < t then ownA L p else none
  | [], p => by simp [clipA, ownA]
  | d :: L, p => by
    have ih := clip_own f t L p
    rw [clip_cons, own_append, ih]
    by_cases hd : inA d p
    · rw [own_in hd]
      have h1 : d.a ≤ p := hd.1
      have h2 : p < d.b := hd.2
      unfold clip1
      by_cases c : f ≤ p ∧ p < t
      · rw [if_pos c, if_pos (by omega), own_in ⟨by show max d.a f ≤ p; omega, by show p < min d.b t; omega⟩, if_pos c]
        rfl
      · rw [if_neg c, if_neg c]
        split
        · rw [own_out (fun k => by have k1 : max d.a f ≤ p := k.1; have k2 : p < min d.b t := k.2; omega)]
          rfl
        · rfl
    · rw [own_out hd]
      have e : ownA (clip1 f t d) p = none := by
        unfold clip1
        split
        · rw [own_out (fun k => hd ⟨by have k1 : max d.a f ≤ p := k.1; show d.a ≤ p; omega, by have k2 : p < min d.b t := k.2; show p < d.b; omega⟩)]
          rfl
        · rfl
      rw [e]
      cases (if f ≤ p ∧ p < t then ownA L p else none) <;> rfl

/-- Two are one. -/
def oneB (c d : AAr) : Bool := decide (c.b = d.a) && (c.w == d.w && c.x == d.x) && c.h == d.h
theorem oneB_iff (c d : AAr) : oneB c d = true ↔ c.b = d.a ∧ c.pg = d.pg := by
  simp [oneB, AAr.pg, and_assoc]
/-- One behind the others. -/
def glueB (acc : List AAr) (d : AAr) : Bool := decide (0 < acc.length) && oneB (acc.getD (acc.length - 1) AAr.zero) d
def stpA (acc : List AAr) (d : AAr) : List AAr :=
  if glueB acc d = true then acc.set (acc.length - 1) ⟨(acc.getD (acc.length - 1) AAr.zero).a, d.b, (acc.getD (acc.length - 1) AAr.zero).w, (acc.getD (acc.length - 1) AAr.zero).x, (acc.getD (acc.length - 1) AAr.zero).h⟩ else acc ++ [d]
def mrgA (acc X : List AAr) : List AAr := X.foldl stpA acc
theorem mrg_nil (acc : List AAr) : mrgA acc [] = acc := rfl
theorem mrg_append (acc X Y : List AAr) : mrgA acc (X ++ Y) = mrgA (mrgA acc X) Y := List.foldl_append ..
theorem mrg_one (acc : List AAr) (d : AAr) : mrgA acc [d] = stpA acc d := rfl
theorem stp_len (acc : List AAr) (d : AAr) : (stpA acc d).length ≤ acc.length + 1 := by
  unfold stpA
  split <;> simp
theorem mrg_len : ∀ (X acc : List AAr), (mrgA acc X).length ≤ acc.length + X.length
  | [], acc => Nat.le_refl _
  | d :: X, acc => by
    have h1 := mrg_len X (stpA acc d)
    have h2 := stp_len acc d
    show (mrgA (stpA acc d) X).length ≤ _
    simp only [List.length_cons]
    omega
theorem stp_nil (d : AAr) : stpA [] d = [d] := rfl
theorem stp_snoc (L : List AAr) (c d : AAr) : stpA (L ++ [c]) d = if oneB c d = true then L ++ [⟨c.a, d.b, c.w, c.x, c.h⟩] else L ++ [c] ++ [d] := by
  have e : (L ++ [c]).getD ((L ++ [c]).length - 1) AAr.zero = c := by simp
  unfold stpA glueB
  rw [e]
  have e2 : decide (0 < (L ++ [c]).length) = true := by simp
  rw [e2, Bool.true_and]
  by_cases h : oneB c d = true
  · rw [if_pos h, if_pos h]
    simp
  · rw [if_neg h, if_neg h]
theorem stp_step {acc : List AAr} {d : AAr} (h : NrmA acc) (he : (finA 0 none acc).1 ≤ d.a) (h0 : 0 ≤ d.a) (h1 : d.a < d.b) (h2 : d.b ≤ 4096) : NrmA (stpA acc d) ∧ (finA 0 none (stpA acc d)).1 ≤ d.b ∧ ∀ p, ownA (stpA acc d) p = (ownA acc p).or (ownA [d] p) := by
  rcases acc.eq_nil_or_concat with rfl | ⟨L, c, rfl⟩
  · rw [stp_nil]
    exact ⟨chn_one.2 ⟨h0, h1, h2, fun _ k => by cases k⟩, Int.le_refl _, fun p => by rw [own_nil]; rfl⟩
  · rw [List.concat_eq_append] at *
    rw [stp_snoc]
    rw [fin_snoc] at he
    simp only at he
    have hc := (chn_append _ _ _ _).1 h
    have hc1 := chn_one.1 hc.2
    by_cases k : oneB c d = true
    · rw [if_pos k]
      obtain ⟨k1, k2⟩ := (oneB_iff c d).1 k
      refine ⟨(chn_append _ _ _ _).2 ⟨hc.1, chn_one.2 ⟨hc1.1, by show c.a < d.b; omega, h2, hc1.2.2.2⟩⟩, by rw [fin_snoc]; exact Int.le_refl _, fun p => ?_⟩
      rw [own_append, own_append]
      cases ho : ownA L p with
      | some x => rfl
      | none =>
        by_cases c1 : inA c p
        · rw [own_in c1, own_in (show inA ⟨c.a, d.b, c.w, c.x, c.h⟩ p from ⟨c1.1, by have := c1.2; show p < d.b; omega⟩)]
          rfl
        · rw [own_out c1, own_nil]
          by_cases c2 : inA d p
          · rw [own_in c2, own_in (show inA ⟨c.a, d.b, c.w, c.x, c.h⟩ p from ⟨by have := c2.1; show c.a ≤ p; omega, c2.2⟩)]
            show some c.pg = some d.pg
            rw [k2]
          · rw [own_out c2, own_out (fun q => by
              have q1 : c.a ≤ p := q.1
              have q2 : p < d.b := q.2
              by_cases q3 : p < c.b
              · exact c1 ⟨q1, q3⟩
              · exact c2 ⟨by omega, q2⟩)]
            rfl
    · rw [if_neg k]
      refine ⟨(chn_append _ _ _ _).2 ⟨h, ?_⟩, by rw [fin_snoc]; exact Int.le_refl _, fun p => own_append _ _ _⟩
      rw [fin_snoc]
      exact chn_one.2 ⟨he, h1, h2, fun e q => k ((oneB_iff c d).2 ⟨e.symm, by simpa using q⟩)⟩
theorem mrg_nrm : ∀ (X acc : List AAr) (lo : Int), NrmA acc → 0 ≤ lo → (finA 0 none acc).1 ≤ lo → RisA lo X → NrmA (mrgA acc X) ∧ ∀ p, ownA (mrgA acc X) p = (ownA acc p).or (ownA X p)
  | [], acc, lo, h, _, _, _ => ⟨h, fun p => by rw [mrg_nil, own_nil]; cases ownA acc p <;> rfl⟩
  | d :: X, acc, lo, h, h0, he, ⟨r1, r2, r3, r4⟩ => by
    obtain ⟨s1, s2, s3⟩ := stp_step h (show _ ≤ d.a by omega) (by omega) r2 r3
    obtain ⟨i1, i2⟩ := mrg_nrm X (stpA acc d) d.b s1 (by omega) s2 r4
    refine ⟨i1, fun p => ?_⟩
    show ownA (mrgA (stpA acc d) X) p = _
    rw [i2, s3, show d :: X = [d] ++ X from rfl, own_append [d] X]
    cases ownA acc p <;> cases ownA [d] p <;> rfl

/-- A list laid out of three. -/
def layX (L : List AAr) (a b : Int) (m : List AAr) : List AAr := clipA 0 a L ++ m ++ clipA b 4096 L
theorem layX_ris {L m : List AAr} {a b : Int} (h : NrmA L) (ha : 0 ≤ a) (hab : a ≤ b) (hm : RisA a m) (hme : ∀ d ∈ m, d.b ≤ b) : RisA 0 (layX L a b m) := by
  have hr := ChnA.ris L 0 none h
  unfold layX
  rw [ris_append, ris_append]
  have e1 : endA 0 (clipA 0 a L) ≤ a := end_all _ _ _ ha fun d hd => (clip_mem hd).2
  refine ⟨⟨(clip_ris 0 a L 0 hr).mono (by omega), hm.mono e1⟩, ?_⟩
  have hp : RisA b (clipA b 4096 L) := (clip_ris b 4096 L 0 hr).mono (by omega)
  refine hp.mono (end_all _ _ _ (by omega) fun d hd => ?_)
  rcases List.mem_append.1 hd with k | k
  · have := (clip_mem k).2; omega
  · exact hme d k
theorem layX_own {L m : List AAr} {a b : Int} (hab : a ≤ b) (p : Int) (h0 : 0 ≤ p) (h1 : p < 4096) (hm : ∀ p, ¬ (a ≤ p ∧ p < b) → ownA m p = none) : ownA (layX L a b m) p = if a ≤ p ∧ p < b then ownA m p else ownA L p := by
  unfold layX
  rw [own_append, own_append, clip_own, clip_own]
  by_cases c : a ≤ p ∧ p < b
  · rw [if_pos c, if_neg (by omega), if_neg (by omega)]
    cases ownA m p <;> rfl
  · rw [if_neg c, hm p c]
    by_cases c1 : p < a
    · rw [if_pos ⟨h0, c1⟩, if_neg (by omega)]
      cases ownA L p <;> rfl
    · rw [if_neg (by omega), if_pos ⟨by omega, h1⟩]
      rfl
theorem layX_len (L m : List AAr) (a b : Int) : (layX L a b m).length ≤ 2 * L.length + m.length := by
  unfold layX
  have h1 := clip_len 0 a L
  have h2 := clip_len b 4096 L
  simp only [List.length_append]
  omega
/-- What the list becomes. -/
def layM (L : List AAr) (a b : Int) (m : List AAr) : List AAr := mrgA [] (layX L a b m)
theorem lay_can {L m : List AAr} {a b : Int} {f : Int → Option Pg} (h : NrmA L) (ha : 0 ≤ a) (hab : a ≤ b) (hm : RisA a m) (hme : ∀ d ∈ m, d.b ≤ b) (hf : ∀ p : Int, 0 ≤ p → p < 4096 → f p = if a ≤ p ∧ p < b then ownA m p else ownA L p) : CanA f (layM L a b m) := by
  obtain ⟨h1, h2⟩ := mrg_nrm (layX L a b m) [] 0 trivial (Int.le_refl _) (Int.le_refl _) (layX_ris h ha hab hm hme)
  refine ⟨h1, fun p p0 p1 => ?_⟩
  unfold layM
  rw [h2, own_nil, layX_own hab p p0 p1 ?_, hf p p0 p1]
  · rfl
  · intro q hq
    by_cases c : q < a
    · exact hm.low q c
    · rw [own_none_iff]
      intro d hd k
      have := hme d hd
      have := k.2
      omega
/-- An area laid over; pages cut out; rights laid over. -/
theorem can_lay {L : List AAr} {d : AAr} (h : NrmA L) (h0 : 0 ≤ d.a) (h1 : d.a < d.b) (h2 : d.b ≤ 4096) : CanA (layA (ownA L) d.a d.b (some d.pg)) (layM L d.a d.b [d]) :=
  lay_can h h0 (by omega) ⟨Int.le_refl _, h1, h2, trivial⟩ (fun e he => by obtain rfl := List.mem_singleton.1 he; exact Int.le_refl _) fun p _ _ => by
    unfold layA
    by_cases c : d.a ≤ p ∧ p < d.b
    · rw [if_pos c, if_pos c, own_in c]
    · rw [if_neg c, if_neg c]
theorem can_cut {L : List AAr} {a b : Int} (h : NrmA L) (h0 : 0 ≤ a) (h1 : a < b) : CanA (layA (ownA L) a b none) (layM L a b []) :=
  lay_can h h0 (by omega) trivial (fun e he => by cases he) fun p _ _ => by
    unfold layA
    by_cases c : a ≤ p ∧ p < b
    · rw [if_pos c, if_pos c]; rfl
    · rw [if_neg c, if_neg c]
def AAr.turn (g : Pg → Pg) (d : AAr) : AAr := AAr.of d.a d.b (g d.pg)
theorem turn_ris (g : Pg → Pg) : ∀ {L : List AAr} {lo : Int}, RisA lo L → RisA lo (L.map (AAr.turn g))
  | [], _, _ => trivial
  | _ :: _, _, ⟨h1, h2, h3, h4⟩ => ⟨h1, h2, h3, turn_ris g h4⟩
theorem turn_own (g : Pg → Pg) : ∀ (L : List AAr) (p : Int), ownA (L.map (AAr.turn g)) p = (ownA L p).map g
  | [], _ => rfl
  | d :: L, p => by
    rw [List.map_cons]
    by_cases c : inA d p
    · rw [own_in c, own_in (show inA (d.turn g) p from c)]
      rfl
    · rw [own_out c, own_out (show ¬ inA (d.turn g) p from c)]
      exact turn_own g L p
theorem can_map {L : List AAr} {a b : Int} (g : Pg → Pg) (h : NrmA L) (h0 : 0 ≤ a) (h1 : a < b) : CanA (mapA (ownA L) a b g) (layM L a b ((clipA a b L).map (AAr.turn g))) :=
  lay_can h h0 (by omega) (turn_ris g ((clip_ris a b L 0 (ChnA.ris L 0 none h)).mono (by omega))) (fun e he => by
    obtain ⟨d, hd, rfl⟩ := List.mem_map.1 he
    exact (clip_mem hd).2) fun p _ _ => by
    unfold mapA
    rw [turn_own, clip_own]
    by_cases c : a ≤ p ∧ p < b
    · rw [if_pos c, if_pos c, if_pos c]
    · rw [if_neg c, if_neg c]

/-- Whether areas leave no page out. -/
def covA (f t : Int) : List AAr → Bool
  | [] => decide (f = t)
  | d :: L => if d.a = f then covA d.b t L else false
theorem cov_iff (t : Int) : ∀ (L : List AAr) (f : Int), f ≤ t → RisA f L → (∀ d ∈ L, d.b ≤ t) → (covA f t L = true ↔ ∀ p, f ≤ p → p < t → ownA L p ≠ none)
  | [], f, h, _, _ => by
    simp only [covA, decide_eq_true_eq]
    exact ⟨fun e p h1 h2 => by omega, fun k => by
      by_cases c : f = t
      · exact c
      · exact absurd rfl (k f (Int.le_refl _) (by omega))⟩
  | d :: L, f, h, ⟨h1, h2, h3, h4⟩, hb => by
    have hd := hb d List.mem_cons_self
    have ih := cov_iff t L d.b hd h4 fun x hx => hb x (List.mem_cons_of_mem _ hx)
    unfold covA
    by_cases c : d.a = f
    · rw [if_pos c, ih]
      constructor
      · intro k p p1 p2
        by_cases q : p < d.b
        · rw [own_in ⟨by omega, q⟩]; simp
        · rw [own_out (fun x => q x.2)]
          exact k p (by omega) p2
      · intro k p p1 p2
        have := k p (by omega) p2
        rwa [own_out (fun x => by have := x.2; omega)] at this
    · rw [if_neg c]
      refine ⟨fun k => by simp at k, fun k => ?_⟩
      have := k f (Int.le_refl _) (by omega)
      rw [own_out (fun x => by have := x.1; omega), RisA.low h4 f (by omega)] at this
      exact absurd rfl this
theorem cov_clip {L : List AAr} {a b : Int} (h : NrmA L) (h0 : 0 ≤ a) (h1 : a < b) : covA a b (clipA a b L) = true ↔ ∀ p, a ≤ p → p < b → ownA L p ≠ none := by
  rw [cov_iff b _ a (by omega) ((clip_ris a b L 0 (ChnA.ris L 0 none h)).mono (by omega)) fun d hd => (clip_mem hd).2]
  constructor
  · intro k p p1 p2
    have := k p p1 p2
    rwa [clip_own, if_pos ⟨p1, p2⟩] at this
  · intro k p p1 p2
    rw [clip_own, if_pos ⟨p1, p2⟩]
    exact k p p1 p2

/-- A page's own area. -/
def fndA (p : Int) : List AAr → Option AAr
  | [] => none
  | d :: L => if d.a ≤ p ∧ p < d.b then some d else fndA p L
theorem fnd_own (p : Int) : ∀ L : List AAr, (fndA p L).map AAr.pg = ownA L p
  | [] => rfl
  | d :: L => by
    unfold fndA ownA
    by_cases c : d.a ≤ p ∧ p < d.b
    · rw [if_pos c, if_pos c]; rfl
    · rw [if_neg c, if_neg c]; exact fnd_own p L
theorem fnd_mem {p : Int} : ∀ {L : List AAr} {d : AAr}, fndA p L = some d → d ∈ L ∧ d.a ≤ p ∧ p < d.b
  | [], _, h => by cases h
  | e :: L, d, h => by
    unfold fndA at h
    by_cases c : e.a ≤ p ∧ p < e.b
    · rw [if_pos c] at h
      cases h
      exact ⟨List.mem_cons_self, c⟩
    · rw [if_neg c] at h
      have := fnd_mem h
      exact ⟨List.mem_cons_of_mem _ this.1, this.2⟩

/-- Where there is room for n pages; below 0: nowhere. -/
def rmA (n : Int) : Int → List AAr → Int
  | f, [] => if 4096 - f < n then -1 else f
  | f, d :: L => if n ≤ d.a - f then f else rmA n d.b L
theorem rm_room (n : Int) (hn : 1 ≤ n) (G : Int → Option Pg) : ∀ (L : List AAr) (f : Int), 0 ≤ f → f ≤ 4096 → RisA f L → (∀ p, f ≤ p → p < 4096 → G p = ownA L p) → (∀ y, roomA G n y → f ≤ y) → RoomP G n (rmA n f L)
  | [], f, h0, h1, _, hg, hy => by
    unfold rmA
    by_cases c : 4096 - f < n
    · rw [if_pos c]
      exact Or.inr ⟨rfl, fun y k => by have := hy y k; have := k.2.1; omega⟩
    · rw [if_neg c]
      exact Or.inl ⟨⟨h0, by omega, fun p p1 p2 => by rw [hg p p1 (by omega)]; rfl⟩, hy⟩
  | d :: L, f, h0, h1, ⟨r1, r2, r3, r4⟩, hg, hy => by
    unfold rmA
    by_cases c : n ≤ d.a - f
    · rw [if_pos c]
      exact Or.inl ⟨⟨h0, by omega, fun p p1 p2 => by
        rw [hg p p1 (by omega), own_out (fun x => by have := x.1; omega)]
        exact RisA.low r4 p (by omega)⟩, hy⟩
    · rw [if_neg c]
      refine rm_room n hn G L d.b (by omega) r3 r4 (fun p p1 p2 => by rw [hg p (by omega) p2, own_out (fun x => by have := x.2; omega)]) fun y k => ?_
      have h2 := hy y k
      by_cases q : d.b ≤ y
      · exact q
      · exfalso
        have hk := k.2.2
        by_cases q2 : d.a ≤ y
        · have := hk y (Int.le_refl _) (by omega)
          rw [hg y h2 (by omega), own_in ⟨q2, by omega⟩] at this
          cases this
        · have := hk d.a (by omega) (by omega)
          rw [hg d.a (by omega) (by omega), own_in ⟨Int.le_refl _, r2⟩] at this
          cases this
theorem rm_spec {L : List AAr} {n : Int} (h : NrmA L) (hn : 1 ≤ n) : RoomP (ownA L) n (rmA n 0 L) :=
  rm_room n hn (ownA L) L 0 (Int.le_refl _) (by omega) (ChnA.ris L 0 none h) (fun _ _ _ => rfl) fun y k => k.1
theorem drop_cons (L : List AAr) {k : Nat} (h : k < L.length) : L.drop k = L.getD k AAr.zero :: L.drop (k + 1) := by
  rw [List.getD_eq_getElem?_getD, List.getElem?_eq_getElem h, Option.getD_some, List.drop_eq_getElem_cons h]
/-- May a list be? -/
def MayA (L : List AAr) : Prop := L.length ≤ 64 ∧ NrmA L
def SpanA (a b : Int) : Prop := 0 ≤ a ∧ a < b ∧ b ≤ 4096
end Go.Proofs.Ytoimmapdkapheaa
/- APg: a struct paviorref09.Page as it lies in cells, and what a reading of it gives. -/
namespace Go.Proofs.Ytoimmapdkapheaa
set_option maxRecDepth 4000
open Go.ChangeShapes Go.WideShapes Go.ChangeAt Go.RowKit Go.Deep

structure APg where
  is : Bool
  w : Bool
  x : Bool
  h : Bool
def APg.zero : APg := ⟨false, false, false, false⟩
def APg.cells (d : APg) : List Value := [.bool d.is, .bool d.w, .bool d.x, .bool d.h]
def APg.ok (_ : APg) : Prop := True
theorem APg.len (d : APg) : d.cells.length = 4 := rfl
theorem cellsOf_APg : Try.prog.cellsOf 72 = 4 := by kernel_rfl

section
variable {H : Type} {enc : TypeId × Value → H} {w : World} {base : Nat} {spare : Nat → Bool} {held : Bool}
theorem trod_APg {fuel : Nat} {cs : List Value} {x : DataW H × List MemPlace} (hf : DataW.trod enc Try.prog w base spare held fuel 72 cs = some x) (hl : cs.length = 4) : ∃ d : APg, cs = d.cells ∧ d.ok := by
  obtain ⟨xs, n, _, hx, _, hlen, h⟩ := DataW.trod_struct Try.underlying72 hf
  match cs, hl, xs, hlen with
  | [c0, c1, c2, c3], _, [x0, x1, x2, x3], _ =>
    have z0 : Try.prog.cellsOf 4 = 1 := by kernel_rfl
    have h0 := h 0 _ rfl
    simp [z0] at h0
    obtain ⟨a0, e0, _⟩ := DataW.trod_bool Try.underlying4 h0
    simp only [List.cons.injEq, and_true] at e0
    subst e0
    have h1 := h 1 _ rfl
    simp [z0] at h1
    obtain ⟨a1, e1, _⟩ := DataW.trod_bool Try.underlying4 h1
    simp only [List.cons.injEq, and_true] at e1
    subst e1
    have h2 := h 2 _ rfl
    simp [z0] at h2
    obtain ⟨a2, e2, _⟩ := DataW.trod_bool Try.underlying4 h2
    simp only [List.cons.injEq, and_true] at e2
    subst e2
    have h3 := h 3 _ rfl
    simp [z0] at h3
    obtain ⟨a3, e3, _⟩ := DataW.trod_bool Try.underlying4 h3
    simp only [List.cons.injEq, and_true] at e3
    subst e3
    exact ⟨⟨a0, a1, a2, a3⟩, rfl, trivial⟩

theorem open_APg {r : Reach} {b0 : Nat} {v : Value} {d : DataW H} {ps : List MemPlace} (hval : Value.okWide Try.prog w r b0 72 v) (hd : DataW.Trod enc Try.prog w base spare held 72 v d ps) :
    ∃ a : APg, v = .agg a.cells.toArray ∧ a.ok := by
  obtain ⟨cs, rfl, hs⟩ := okWide_struct Try.underlying72 hval
  rw [cellsOf_APg] at hs
  obtain ⟨l⟩ := cs
  obtain ⟨fuel, hf⟩ := hd
  obtain ⟨a, e, h⟩ := trod_APg (cs := l) (by simpa [Value.cells] using hf) (by simpa using hs)
  exact ⟨a, by rw [e], h⟩
end

theorem APg.cells_eq (d : APg) : d.cells = [.bool d.is, .bool d.w, .bool d.x, .bool d.h] := rfl
theorem APg.one (d : APg) : ∀ u ∈ d.cells, u.oneCell' = true := by
  intro u hu
  rw [APg.cells_eq] at hu
  simp only [List.mem_cons, List.not_mem_nil, or_false] at hu
  rcases hu with rfl | rfl | rfl | rfl <;> rfl
def rAPg : Rec APg := ⟨72, 4, 4, APg.zero, APg.cells, APg.len, by decide, APg.one⟩
theorem APg.kin : Kin Try.prog rAPg 56 := Kin.of (z := .agg #[.bool false, .bool false, .bool false, .bool false]) Try.underlying56 (by kernel_rfl) rfl
theorem APg.at {w : World} {b o : Nat} {d : APg} (h : At rAPg w b o d) : w.cell? ⟨b, o, none⟩ = some (.bool d.is) ∧ w.cell? ⟨b, o + 1, none⟩ = some (.bool d.w) ∧ w.cell? ⟨b, o + 2, none⟩ = some (.bool d.x) ∧ w.cell? ⟨b, o + 3, none⟩ = some (.bool d.h) :=
  ⟨h 0 (by decide), h 1 (by decide), h 2 (by decide), h 3 (by decide)⟩
def APg.arr (d : APg) : Array Value := #[.bool d.is, .bool d.w, .bool d.x, .bool d.h]
theorem APg.laid {w : World} {b : Nat} {d : APg} (h : Laid w b 72 d.arr) : w.cell? ⟨b, 0, none⟩ = some (.bool d.is) ∧ w.cell? ⟨b, 1, none⟩ = some (.bool d.w) ∧ w.cell? ⟨b, 2, none⟩ = some (.bool d.x) ∧ w.cell? ⟨b, 3, none⟩ = some (.bool d.h) :=
  ⟨h.cell 0, h.cell 1, h.cell 2, h.cell 3⟩
theorem APg.lst {w W : World} {ao : Option Addr} {len : Nat} {D : Nat → APg} (h : Lst APg.cells APg.ok 4 w ao len D) (hb : Below w.heap.size w W) {i : Nat} (hi : i < len) : ∃ b off, ao = some ⟨b, off, none⟩ ∧ b < w.heap.size ∧ (D i).ok ∧ At rAPg W b (off + i * 4) (D i) := by
  obtain ⟨b, off, e, hlt, hall⟩ := h.at hi
  obtain ⟨hok, hc⟩ := hall i hi
  exact ⟨b, off, e, hlt, hok, fun j hj => ((bcell hb).1 b _ hlt).trans (hc j hj)⟩
end Go.Proofs.Ytoimmapdkapheaa
/- Areas as values, lists of them that are read; the small functions of layer 9. -/
namespace Go.Proofs.Ytoimmapdkapheaa
set_option maxRecDepth 4000
open Go.RowKit

theorem below_drewN {B : Nat} {a w : World} (h : Below B a w) (n : Nat) : Below B a (w.drewN n) := ⟨h.os, h.tape, h.output, h.size, h.block⟩
def av (d : AAr) : Value := .agg #[.int .i64 d.a, .int .i64 d.b, .bool d.w, .bool d.x, .bool d.h]
def rv (w x : Bool) : Value := .agg #[.bool w, .bool x]
def pv (d : APg) : Value := .agg #[.bool d.is, .bool d.w, .bool d.x, .bool d.h]

def eqA (c d : AAr) : Bool := decide (c.a = d.a) && (decide (c.b = d.b) && ((c.w == d.w && c.x == d.x) && c.h == d.h))
theorem eqA_iff (c d : AAr) : eqA c d = true ↔ c = d := by
  obtain ⟨a1, a2, a3, a4, a5⟩ := c
  obtain ⟨b1, b2, b3, b4, b5⟩ := d
  simp [eqA, and_assoc]
theorem eqA_self (c : AAr) : eqA c c = true := (eqA_iff c c).2 rfl
def eqP (c d : APg) : Bool := c.is == d.is && (c.w == d.w && (c.x == d.x && c.h == d.h))
theorem eqP_iff (c d : APg) : eqP c d = true ↔ c = d := by
  obtain ⟨a1, a2, a3, a4⟩ := c
  obtain ⟨b1, b2, b3, b4⟩ := d
  simp [eqP]

theorem rt_run (n : Nat) (a b c d : Bool) (w : World) : (Op.equalIn (n + 3) 31 (rv a b) (rv c d)).run Try.prog w = .ok (a == c && b == d) w := by
  have hb : ∀ (n : Nat) (x y : Bool) (w : World), (Op.equalIn (n + 1) 4 (.bool x) (.bool y)).run Try.prog w = .ok (x == y) w := fun n x y w => run_equalIn_bool' w n 4 x y Try.underlying4
  unfold rv
  rw [run_equalIn_agg w (n + 2) _ _ _ (by kernel_rfl) (by kernel_rfl)]
  simp [go_sem, Program.fieldsOf, Try.underlying31, Op.eqFields, hb]
  cases a <;> cases b <;> cases c <;> cases d <;> rfl
theorem eql_rt (a b c d : Bool) (w : World) : (binOp .eql 31 (.agg #[.bool a, .bool b]) (.agg #[.bool c, .bool d])).run Try.prog w = .ok (.bool (a == c && b == d)) w := by
  have := rt_run 9997 a b c d w
  unfold rv at this
  rw [run_eql_struct, this]
  rfl
theorem neq_rt (a b c d : Bool) (w : World) : (binOp .neq 31 (.agg #[.bool a, .bool b]) (.agg #[.bool c, .bool d])).run Try.prog w = .ok (.bool (!(a == c && b == d))) w := by
  have := rt_run 9997 a b c d w
  unfold rv at this
  rw [run_neq_struct, this]
  rfl
theorem eqA_run (a b : AAr) (w : World) : (Op.equalIn 10000 55 (av a) (av b)).run Try.prog w = .ok (eqA a b) w := by
  have hi : ∀ (n : Nat) (x y : Int) (w : World), (Op.equalIn (n + 1) 3 (.int .i64 x) (.int .i64 y)).run Try.prog w = .ok (x == y) w := fun n x y w => run_equalIn_int w n 3 .i64 .i64 x y Try.underlying3
  have hb : ∀ (n : Nat) (x y : Bool) (w : World), (Op.equalIn (n + 1) 4 (.bool x) (.bool y)).run Try.prog w = .ok (x == y) w := fun n x y w => run_equalIn_bool' w n 4 x y Try.underlying4
  have hr : ∀ (n : Nat) (a b c d : Bool) (w : World), (Op.equalIn (n + 3) 31 (.agg #[.bool a, .bool b]) (.agg #[.bool c, .bool d])).run Try.prog w = .ok (a == c && b == d) w := fun n a b c d w => rt_run n a b c d w
  unfold av
  rw [run_equalIn_agg w 9999 _ _ _ (by kernel_rfl) (by kernel_rfl)]
  obtain ⟨a1, a2, a3, a4, a5⟩ := a
  obtain ⟨b1, b2, b3, b4, b5⟩ := b
  unfold eqA
  simp only
  simp [go_sem, Program.fieldsOf, Try.underlying55, Op.eqFields, hi, hb, hr]
  by_cases h1 : a1 = b1 <;> by_cases h2 : a2 = b2 <;> simp [h1, h2]
  cases a3 <;> cases a4 <;> cases a5 <;> cases b3 <;> cases b4 <;> cases b5 <;> rfl
theorem eql_ar (a b : AAr) (w : World) : (binOp .eql 55 (av a) (av b)).run Try.prog w = .ok (.bool (eqA a b)) w := by
  have := eqA_run a b w
  unfold av at *
  rw [run_eql_struct, this]
  rfl
theorem neq_ar (a b : AAr) (w : World) : (binOp .neq 55 (av a) (av b)).run Try.prog w = .ok (.bool (!eqA a b)) w := by
  have := eqA_run a b w
  unfold av at *
  rw [run_neq_struct, this]
  rfl
theorem eqP_run (a b : APg) (w : World) : (Op.equalIn 10000 72 (pv a) (pv b)).run Try.prog w = .ok (eqP a b) w := by
  have hb : ∀ (n : Nat) (x y : Bool) (w : World), (Op.equalIn (n + 1) 4 (.bool x) (.bool y)).run Try.prog w = .ok (x == y) w := fun n x y w => run_equalIn_bool' w n 4 x y Try.underlying4
  unfold pv
  rw [run_equalIn_agg w 9999 _ _ _ (by kernel_rfl) (by kernel_rfl)]
  obtain ⟨a1, a2, a3, a4⟩ := a
  obtain ⟨b1, b2, b3, b4⟩ := b
  unfold eqP
  simp only
  simp [go_sem, Program.fieldsOf, Try.underlying72, Op.eqFields, hb]
  cases a1 <;> cases a2 <;> cases a3 <;> cases a4 <;> cases b1 <;> cases b2 <;> cases b3 <;> cases b4 <;> rfl
theorem eql_pg (a b : APg) (w : World) : (binOp .eql 72 (pv a) (pv b)).run Try.prog w = .ok (.bool (eqP a b)) w := by
  have := eqP_run a b w
  unfold pv at *
  rw [run_eql_struct, this]
  rfl

/-- A list that is only read, wherever it lies. -/
def Sn {α : Type} (R : Rec α) (w : World) (ao : Option Addr) (l : List α) : Prop :=
  l = [] ∨ ∃ g off, ao = some ⟨g, off, none⟩ ∧ g < w.heap.size ∧ ∀ k, k < l.length → At R w g (off + k * R.n) (l.getD k R.zero)
section
variable {α : Type} {R : Rec α} {w w' : World} {ao : Option Addr} {l : List α}
theorem Sn.nil (R : Rec α) (w : World) (ao : Option Addr) : Sn R w ao [] := Or.inl rfl
theorem Sn.same (h : Sn R w ao l) (hs : w.heap.size ≤ w'.heap.size) (hb : ∀ g off, ao = some ⟨g, off, none⟩ → g < w.heap.size → w'.heap[g]? = w.heap[g]?) : Sn R w' ao l := by
  rcases h with h | ⟨g, off, e, hg, hc⟩
  · exact Or.inl h
  · exact Or.inr ⟨g, off, e, Nat.lt_of_lt_of_le hg hs, fun k hk => (hc k hk).same (hb g off e hg)⟩
theorem Sn.below (h : Sn R w ao l) (hb : Below w.heap.size w w') : Sn R w' ao l := h.same hb.size fun g _ _ hg => hb.block g hg
theorem Sn.at (h : Sn R w ao l) {k : Nat} (hk : k < l.length) : ∃ g off, ao = some ⟨g, off, none⟩ ∧ g < w.heap.size ∧ At R w g (off + k * R.n) (l.getD k R.zero) := by
  rcases h with rfl | ⟨g, off, e, hg, hc⟩
  · simp at hk
  · exact ⟨g, off, e, hg, hc k hk⟩
theorem Row.sn {B : Nat} {n c : Nat} (h : Row R B w (.slice ao n c) l) : Sn R w ao l := by
  by_cases e : l = []
  · exact Or.inl e
  · obtain ⟨g, e1, -, -, hg, -⟩ := h.at (List.length_pos_iff.2 e)
    refine Or.inr ⟨g, 0, e1, hg, fun k hk => ?_⟩
    obtain ⟨g', e2, -, -, -, -, -, hat⟩ := h.at hk
    rw [e1] at e2
    cases e2
    rw [Nat.zero_add]
    exact hat
theorem Sn.one {b o : Nat} {x : α} (hb : b < w.heap.size) (h : At R w b o x) : Sn R w (some ⟨b, o, none⟩) [x] := by
  refine Or.inr ⟨b, o, rfl, hb, fun k hk => ?_⟩
  simp at hk
  subst hk
  simpa using h
theorem Sn.seen (h : Sn R w ao l) (hl : l ≠ []) (c : Nat) : Seen R w ao c l := by
  rcases h with h | ⟨g, off, rfl, hg, hc⟩
  · exact absurd h hl
  · refine ⟨fun e => (by cases e), fun ad e => ?_⟩
    cases e
    exact ⟨g, off, rfl, hg, hc⟩
end
theorem Lst.sn {w : World} {ao : Option Addr} {len : Nat} {D : Nat → AAr} (h : Lst AAr.cells AAr.ok 5 w ao len D) : Sn rAAr w ao ((List.range len).map D) := by
  rcases h with rfl | ⟨g, off, e, hg, hc⟩
  · exact Or.inl rfl
  · refine Or.inr ⟨g, off, e, hg, fun k hk => ?_⟩
    have hk' : k < len := by simpa using hk
    have e2 : ((List.range len).map D).getD k rAAr.zero = D k := by
      rw [List.getD_eq_getElem?_getD, List.getElem?_map, List.getElem?_range hk']
      rfl
    rw [e2]
    exact fun j hj => (hc k hk').2 j hj
theorem AAr.sn {w : World} {ao : Option Addr} {L : List AAr} (h : Sn rAAr w ao L) {k : Nat} (hk : k < L.length) : ∃ g off, ao = some ⟨g, off, none⟩ ∧ g < w.heap.size ∧ w.cell? ⟨g, off + k * 5, none⟩ = some (.int .i64 (L.getD k AAr.zero).a) ∧ w.cell? ⟨g, off + k * 5 + 1, none⟩ = some (.int .i64 (L.getD k AAr.zero).b) ∧ w.cell? ⟨g, off + k * 5 + 2, none⟩ = some (.bool (L.getD k AAr.zero).w) ∧ w.cell? ⟨g, off + k * 5 + 3, none⟩ = some (.bool (L.getD k AAr.zero).x) ∧ w.cell? ⟨g, off + k * 5 + 4, none⟩ = some (.bool (L.getD k AAr.zero).h) := by
  obtain ⟨g, off, e, hg, hat⟩ := h.at hk
  exact ⟨g, off, e, hg, AAr.at hat⟩

def spanB (a b : Int) : Bool := decide (0 ≤ a ∧ a < b ∧ b ≤ 4096)
theorem spanB_iff (a b : Int) : spanB a b = true ↔ SpanA a b := by simp [spanB, SpanA]
set_option maxHeartbeats 400000 in
theorem span_any (a b : Int) (w : World) :
    Calls Try.prog 72 #[.int .i64 a, .int .i64 b] w fun e w' => e = .returned (.bool (spanB a b)) ∧ w' = w := by
  by_cases h1 : 0 ≤ a <;> by_cases h2 : a < b <;> by_cases h3 : b ≤ 4096
  all_goals
    have HS : spanB a b = (decide (0 ≤ a) && (decide (a < b) && decide (b ≤ 4096))) := by
      unfold spanB
      rw [Bool.decide_and, Bool.decide_and]
    rw [HS]
    clear HS
    go_enter Try.func72, Try.ntmps72
    go_wp2
    go_ret
    exact ⟨ret_bool (by simp [h1, h2, h3]), rfl⟩
set_option maxHeartbeats 400000 in
theorem rspan_any (a b : Int) (w : World) :
    Calls Try.prog 49 #[.int .i64 a, .int .i64 b] w fun e w' => e = .returned (.bool (spanB a b)) ∧ w' = w := by
  by_cases h1 : 0 ≤ a <;> by_cases h2 : a < b <;> by_cases h3 : b ≤ 4096
  all_goals
    have HS : spanB a b = (decide (0 ≤ a) && (decide (a < b) && decide (b ≤ 4096))) := by
      unfold spanB
      rw [Bool.decide_and, Bool.decide_and]
    rw [HS]
    clear HS
    go_enter Try.func49, Try.ntmps49
    go_wp2
    go_ret
    exact ⟨ret_bool (by simp [h1, h2, h3]), rfl⟩

set_option maxHeartbeats 1000000 in
theorem one_any (c d : AAr) (w : World) :
    Calls Try.prog 73 #[av c, av d] w fun e w' => e = .returned (.bool (oneB c d)) ∧ Below w.heap.size w w' := by
  have hE := eql_rt c.w c.x d.w d.x
  unfold av oneB
  obtain ⟨ca, cb, cw, cx, ch⟩ := c
  obtain ⟨da, db, dw, dx, dh⟩ := d
  simp only at *
  go_enter Try.func73, Try.ntmps73
  go_wp2
  all_goals
    go_ret
    refine ⟨ret_bool ?_, ((Below.refl _ _).alloc (Nat.le_refl _) _).alloc (by simp) _⟩
    simp_all
theorem follow_any (c d : AAr) (w : World) :
    Calls Try.prog 77 #[av c, av d] w fun e w' => e = .returned (.bool (decide (c.b ≤ d.a) && !oneB c d)) ∧ Below w.heap.size w w' := by
  have hO := fun w => one_any c d w
  generalize oneB c d = o at *
  have HB : Hid (Below w.heap.size w ((w.alloc (.cells c.arr 55)).alloc (.cells d.arr 55))) := ((Below.refl _ _).alloc (Nat.le_refl _) _).alloc (by simp) _
  unfold AAr.arr at HB
  unfold av at *
  obtain ⟨ca, cb, cw, cx, ch⟩ := c
  obtain ⟨da, db, dw, dx, dh⟩ := d
  simp only at *
  by_cases h : cb ≤ da
  · go_enter Try.func77, Try.ntmps77
    go_wp2_with fail
    refine (hO _).mono ?_
    rintro e w1 ⟨rfl, hb⟩
    have HB1 : Hid (Below w.heap.size w w1) := below_call HB.out (by simp; omega) hb
    clear hb hO HB
    go_wp2
    go_ret
    exact ⟨ret_bool (by simp [h]), HB1.out⟩
  · go_enter Try.func77, Try.ntmps77
    go_wp2
    go_ret
    exact ⟨ret_bool (by simp; omega), HB.out⟩

set_option maxHeartbeats 1000000 in
theorem rarea_any (d : APg) (a b : Int) (w : World) :
    Calls Try.prog 53 #[pv d, .int .i64 a, .int .i64 b] w fun e w' => e = .returned (av ⟨a, b, d.w, d.x, d.h⟩) ∧ Below w.heap.size w w' := by
  obtain ⟨dis, dw, dx, dh⟩ := d
  unfold pv av
  simp only
  go_enter Try.func53, Try.ntmps53
  go_wp2
  refine bodyPost_ret (v := .agg #[.int .i64 a, .int .i64 b, .bool dw, .bool dx, .bool dh]) ?_ rfl ⟨rfl, ((Below.refl _ _).alloc (Nat.le_refl _) _).alloc (by simp) _⟩
  simp [results, Try.results53, go_sem]
end Go.Proofs.Ytoimmapdkapheaa
/- Check, and the document's May. -/
namespace Go.Proofs.Ytoimmapdkapheaa
set_option maxRecDepth 4000
open Go.RowKit

theorem good_iff (L : List AAr) (i : Nat) : goodA L i ↔ spanB (L.getD i AAr.zero).a (L.getD i AAr.zero).b = true ∧ (0 < i → (decide ((L.getD (i - 1) AAr.zero).b ≤ (L.getD i AAr.zero).a) && !oneB (L.getD (i - 1) AAr.zero) (L.getD i AAr.zero)) = true) := by
  unfold goodA
  rw [spanB_iff]
  simp only [SpanA, Bool.and_eq_true, decide_eq_true_eq, Bool.not_eq_true']
  have h : oneB (L.getD (i - 1) AAr.zero) (L.getD i AAr.zero) = false ↔ ¬ ((L.getD (i - 1) AAr.zero).b = (L.getD i AAr.zero).a ∧ (L.getD (i - 1) AAr.zero).pg = (L.getD i AAr.zero).pg) := by
    rw [← oneB_iff]
    simp
  rw [h]

set_option maxRecDepth 100000 in
set_option maxHeartbeats 4000000 in
theorem check_any {w : World} {ao : Option Addr} {c : Nat} {L : List AAr} (hs : Sn rAAr w ao L) (hm : L.length ≤ maxLen) :
    Calls Try.prog 68 #[.slice ao L.length c] w fun e w' => ((MayA L ∧ e = .returned .nilIface) ∨ (¬ MayA L ∧ e = .returned (.iface 48 (.int .i64 1)))) ∧ Below w.heap.size w w' := by
  have hm' : L.length ≤ 9223372036854775807 := by unfold maxLen at hm; omega
  have HS : Hid (Sn rAAr w ao L) := hs
  clear hs hm
  by_cases h64 : L.length ≤ 64
  · have h64z : ¬ (64 < (L.length : Int)) := by omega
    go_enter Try.func68, Try.ntmps68
    go_wp2
    go_loopw [11] (fun iv W => ∃ k : Nat, k ≤ L.length ∧ iv = .int .i64 k ∧ Hid (NrmA (L.take k)) ∧ Hid (Below w.heap.size w W)) (fun iv _ => L.length - (intOf iv).toNat)
    case atStart => exact ⟨0, Nat.zero_le _, rfl, trivial, Below.refl _ _⟩
    case round =>
      obtain ⟨k, hk, rfl, HN, HB⟩ := hrel
      by_cases hlt : k < L.length
      · have hltz : (k : Int) < (L.length : Int) := by omega
        have hst := nrm_step hlt
        rw [good_iff] at hst
        have HST : Hid (NrmA (L.take (k + 1)) ↔ spanB (L.getD k AAr.zero).a (L.getD k AAr.zero).b = true ∧ (0 < k → (decide ((L.getD (k - 1) AAr.zero).b ≤ (L.getD k AAr.zero).a) && !oneB (L.getD (k - 1) AAr.zero) (L.getD k AAr.zero)) = true)) := ⟨fun h => (hst.1 h).2, fun h => hst.2 ⟨HN.out, h⟩⟩
        have HBD : Hid (¬ NrmA (L.take (k + 1)) → ¬ MayA L) := fun h h' => h (nrm_take h'.2 _)
        have HBA : Hid (Below w.heap.size w (wr.alloc (.cells (L.getD k AAr.zero).arr 55))) := HB.out.alloc HB.out.size _
        obtain ⟨g, off, rfl, hg, c0, c1, c2, c3, c4⟩ := AAr.sn (HS.out.below HB.out) hlt
        have hg' : g < (wr.alloc (.cells (L.getD k AAr.zero).arr 55)).heap.size := by simp; omega
        have hp : 0 < k → _ := fun h => AAr.sn (HS.out.below HB.out) (show k - 1 < L.length by omega)
        have hSp := fun w => span_any (L.getD k AAr.zero).a (L.getD k AAr.zero).b w
        have hFo := fun w => follow_any (L.getD (k - 1) AAr.zero) (L.getD k AAr.zero) w
        clear hst HB HN
        unfold AAr.arr at *
        generalize L.getD k AAr.zero = d at *
        generalize L.getD (k - 1) AAr.zero = e at *
        generalize spanB d.a d.b = sp at *
        generalize (decide (e.b ≤ d.a) && !oneB e d) = fo at *
        unfold av at hFo
        have HW : Hid (∀ w', Below (wr.alloc (.cells #[.int .i64 d.a, .int .i64 d.b, .bool d.w, .bool d.x, .bool d.h] 55)).heap.size (wr.alloc (.cells #[.int .i64 d.a, .int .i64 d.b, .bool d.w, .bool d.x, .bool d.h] 55)) w' → Below w.heap.size w w') := fun w' h => below_call HBA.out HBA.out.size h
        cases sp with
        | false =>
          have HNO : Hid (¬ MayA L) := HBD.out fun h => absurd (HST.out.1 h).1 (by simp)
          clear hp hFo HST HBD
          go_wp2
          go_quiet ((go_at_call 72; exact Calls.quiet_of_same (hSp _)))
          go_wp2
          go_ret
          exact ⟨Or.inr ⟨HNO.out, rfl⟩, below_drewN HBA.out _⟩
        | true =>
          rcases Nat.eq_zero_or_pos k with rfl | hk0
          · have HYES : Hid (NrmA (L.take (0 + 1))) := HST.out.2 ⟨rfl, fun h => absurd h (Nat.lt_irrefl _)⟩
            clear hp hFo HST HBD
            simp only [Nat.zero_mul, Nat.add_zero] at c0 c1 c2 c3 c4
            go_wp2
            go_quiet ((go_at_call 72; exact Calls.quiet_of_same (hSp _)))
            go_wp2
            go_roundw
            case rel => exact ⟨0 + 1, by omega, by go_num, HYES, below_drewN HBA.out _⟩
            case measure => simp only [intOf]; omega
          · obtain ⟨g', off', e', hg2, p0, p1, p2, p3, p4⟩ := hp hk0
            cases e'
            obtain ⟨j, rfl⟩ : ∃ j, k = j + 1 := ⟨k - 1, by omega⟩
            have hjz : (j : Int) < (L.length : Int) := by omega
            simp only [Nat.add_sub_cancel] at p0 p1 p2 p3 p4
            have HF : Hid (fo = true → NrmA (L.take (j + 1 + 1))) := fun h => HST.out.2 ⟨rfl, fun _ => h⟩
            have HF' : Hid (fo = false → ¬ MayA L) := fun h => HBD.out fun h' => by
              have := (HST.out.1 h').2 hk0
              rw [h] at this
              cases this
            have hwj : IntKind.i64.wrap (j : Int) = (j : Int) := by rw [IntKind.wrap_i64]; omega
            have hj0 : (0 : Int) ≤ (j : Int) := by omega
            have hWS : wr.heap.size < (wr.alloc (.cells #[.int .i64 d.a, .int .i64 d.b, .bool d.w, .bool d.x, .bool d.h] 55)).heap.size := by simp
            clear hp HST HBD
            go_wp2
            go_region_held3 (fun w' => w'.cell? ⟨wr.heap.size, 0, none⟩ = some (.int .i64 d.a) ∧ w'.cell? ⟨wr.heap.size, 1, none⟩ = some (.int .i64 d.b) ∧ w'.cell? ⟨wr.heap.size, 2, none⟩ = some (.bool d.w) ∧ w'.cell? ⟨wr.heap.size, 3, none⟩ = some (.bool d.x) ∧ w'.cell? ⟨wr.heap.size, 4, none⟩ = some (.bool d.h) ∧ w'.cell? ⟨g, off + j * 5, none⟩ = some (.int .i64 e.a) ∧ w'.cell? ⟨g, off + j * 5 + 1, none⟩ = some (.int .i64 e.b) ∧ w'.cell? ⟨g, off + j * 5 + 2, none⟩ = some (.bool e.w) ∧ w'.cell? ⟨g, off + j * 5 + 3, none⟩ = some (.bool e.x) ∧ w'.cell? ⟨g, off + j * 5 + 4, none⟩ = some (.bool e.h)) (go_keep) (first | (go_at_call 72; refine (hSp _).mono ?_; rintro e w5 ⟨rfl, hw⟩; obtain rfl := hw.symm; clear hw) | (go_at_call 77; refine (hFo _).mono ?_; rintro e w6 ⟨rfl, hb6⟩; have hx6 := fun o => (bcell hb6).1 wr.heap.size o hWS; have hx7 := fun o => ((bcell hb6).1 g o hg').trans (cell_alloc_old hg2 o _)))
            have HBB : Hid (Below w.heap.size w w6) := HW.out w6 ⟨hb6.os, hb6.tape, hb6.output, hb6.size, hb6.block⟩
            clear hx6 hx7 hb6 hFo hSp c0 c1 c2 c3 c4 p0 p1 p2 p3 p4
            cases fo with
            | true =>
              go_wp2
              go_roundw
              case rel => exact ⟨j + 1 + 1, by omega, by go_num, HF.out (by first | rfl | trivial), HBB⟩
              case measure => simp only [intOf]; omega
            | false =>
              go_wp2
              go_ret
              exact ⟨Or.inr ⟨HF'.out (by first | rfl | trivial), rfl⟩, HBB.out⟩
      · obtain rfl : k = L.length := by omega
        have HY : Hid (MayA L) := ⟨h64, by have := HN.out; rwa [List.take_length] at this⟩
        go_wp2
        go_ret
        exact ⟨Or.inl ⟨HY.out, rfl⟩, HB.out⟩
  · have h64z : 64 < (L.length : Int) := by omega
    have HNO : Hid (¬ MayA L) := fun h => h64 h.1
    go_enter Try.func68, Try.ntmps68
    go_wp2
    go_ret
    exact ⟨Or.inr ⟨HNO.out, rfl⟩, Below.refl _ _⟩
end Go.Proofs.Ytoimmapdkapheaa
/- checkSpan. -/
namespace Go.Proofs.Ytoimmapdkapheaa
set_option maxRecDepth 4000
open Go.RowKit

set_option maxHeartbeats 2000000 in
theorem chkspan_any {w : World} {ao : Option Addr} {c : Nat} {L : List AAr} (hs : Sn rAAr w ao L) (hm : L.length ≤ maxLen) (a b : Int) :
    Calls Try.prog 58 #[.slice ao L.length c, .int .i64 a, .int .i64 b] w fun e w' => (((MayA L ∧ SpanA a b) ∧ e = .returned .nilIface) ∨ (¬ (MayA L ∧ SpanA a b) ∧ e = .returned (.iface 48 (.int .i64 1)))) ∧ Below w.heap.size w w' := by
  have hC := check_any (c := c) hs hm
  have hSp := fun w => span_any a b w
  have HS : Hid (spanB a b = true ↔ SpanA a b) := spanB_iff a b
  clear hs
  generalize spanB a b = sp at *
  go_enter Try.func58, Try.ntmps58
  go_wp2_with fail
  refine hC.mono ?_
  rintro e w1 ⟨h, hb⟩
  rcases h with ⟨hM, rfl⟩ | ⟨hM, rfl⟩
  · have HM : Hid (MayA L) := hM
    have HB : Hid (Below w.heap.size w w1) := hb
    clear hM hb hC
    cases sp with
    | true =>
      have HY : Hid (SpanA a b) := HS.out.1 rfl
      clear HS
      go_wp2_with (go_at_call 72; refine (hSp _).mono ?_; rintro e w5 ⟨rfl, hw⟩; obtain rfl := hw.symm; clear hw)
      go_ret
      exact ⟨Or.inl ⟨⟨HM.out, HY.out⟩, rfl⟩, HB.out⟩
    | false =>
      have HY : Hid (¬ SpanA a b) := fun h => by cases HS.out.2 h
      clear HS
      go_wp2_with (go_at_call 72; refine (hSp _).mono ?_; rintro e w5 ⟨rfl, hw⟩; obtain rfl := hw.symm; clear hw)
      go_ret
      exact ⟨Or.inr ⟨fun h => HY.out h.2, rfl⟩, HB.out⟩
  · have HM : Hid (¬ MayA L) := hM
    have HB : Hid (Below w.heap.size w w1) := hb
    clear hM hb hC HS
    go_wp2
    go_ret
    exact ⟨Or.inr ⟨fun h => HM.out h.1, rfl⟩, HB.out⟩
end Go.Proofs.Ytoimmapdkapheaa
/- Find. -/
namespace Go.Proofs.Ytoimmapdkapheaa
set_option maxRecDepth 4000
open Go.RowKit

theorem fnd_drop {p : Int} {L : List AAr} {k : Nat} (h : k < L.length) : fndA p (L.drop k) = if (L.getD k AAr.zero).a ≤ p ∧ p < (L.getD k AAr.zero).b then some (L.getD k AAr.zero) else fndA p (L.drop (k + 1)) := by
  rw [drop_cons L h]
  rfl
theorem below_sets {w wr : World} {g : Nat} (h : Below w.heap.size w wr) (hg : w.heap.size ≤ g) (vs : List Value) : Below w.heap.size w (wr.setCells g 0 vs) :=
  h.trans ((Keeps.sets vs wr g 0).below h.size fun b _ e => by rw [e]; exact hg)
theorem below_set5 {w wr : World} {g : Nat} (h : Below w.heap.size w wr) (hg : w.heap.size ≤ g) (a b c d e : Value) : Below w.heap.size w (((((wr.setCell ⟨g, 0, none⟩ a).setCell ⟨g, 1, none⟩ b).setCell ⟨g, 2, none⟩ c).setCell ⟨g, 3, none⟩ d).setCell ⟨g, 4, none⟩ e) := below_sets h hg [a, b, c, d, e]
/-- What Find tells of a list that may be. -/
def fndV (r : Option AAr) : Value := match r with
  | some d => .tuple #[av d, .nilIface]
  | none => .tuple #[av AAr.zero, .iface 48 (.int .i64 3)]
set_option maxRecDepth 100000 in
set_option maxHeartbeats 4000000 in
theorem find_any {w : World} {ao : Option Addr} {c : Nat} {L : List AAr} (hs : Sn rAAr w ao L) (hm : L.length ≤ maxLen) (p : Int) :
    Calls Try.prog 54 #[.slice ao L.length c, .int .i64 p] w fun e w' => ((MayA L ∧ e = .returned (fndV (fndA p L))) ∨ (¬ MayA L ∧ e = .returned (.tuple #[av AAr.zero, .iface 48 (.int .i64 1)]))) ∧ Below w.heap.size w w' := by
  have hm' : L.length ≤ 9223372036854775807 := by unfold maxLen at hm; omega
  have B1 : Below w.heap.size w (w.alloc (.cells AAr.zero.arr 55)) := (Below.refl _ _).alloc (Nat.le_refl _) _
  have hC := check_any (c := c) (hs.below B1) hm
  have HS : Hid (Sn rAAr w ao L) := hs
  have HB0 : Hid (Below w.heap.size w (w.alloc (.cells AAr.zero.arr 55)) ∧ Laid (w.alloc (.cells AAr.zero.arr 55)) w.heap.size 55 AAr.zero.arr) := ⟨B1, Laid.new _ _ _⟩
  clear hs hm B1
  unfold AAr.arr AAr.zero at HB0 hC
  simp only at HB0 hC
  go_enter Try.func54, Try.ntmps54
  go_wp2_with fail
  refine hC.mono ?_
  rintro e w1 ⟨h, hb⟩
  have HB1 : Hid (Below w.heap.size w w1) := below_call HB0.out.1 HB0.out.1.size hb
  have X1 := HB0.out.2.below hb
  obtain ⟨z0, z1, z2, z3, z4⟩ := AAr.laid (d := AAr.zero) X1
  simp only [AAr.zero] at z0 z1 z2 z3 z4
  have hlw1 := X1.lt
  have zf1 := fun o => frozen_of_row w1 w.heap.size o _ _ X1
  have HX1 : Hid (Laid w1 w.heap.size 55 #[.int .i64 0, .int .i64 0, .bool false, .bool false, .bool false]) := X1
  rcases h with ⟨hM, rfl⟩ | ⟨hM, rfl⟩
  · have HM : Hid (MayA L) := hM
    clear hM hb hC X1 HB0 z0 z1 z2 z3 z4 zf1 hlw1
    go_wp2
    go_loopw [17] (fun iv W => ∃ k : Nat, k ≤ L.length ∧ iv = .int .i64 k ∧ Hid (fndA p L = fndA p (L.drop k)) ∧ Hid (Below w1.heap.size w1 W)) (fun iv _ => L.length - (intOf iv).toNat)
    case atStart => exact ⟨0, Nat.zero_le _, rfl, rfl, Below.refl _ _⟩
    case round =>
      obtain ⟨k, hk, rfl, HF, HB⟩ := hrel
      have XR := HX1.out.below HB.out
      have hlw := XR.lt
      obtain ⟨z0, z1, z2, z3, z4⟩ := AAr.laid (d := AAr.zero) XR
      have zf := fun o => frozen_of_row wr w.heap.size o _ _ XR
      have za := fun o (v : Obj) => frozen_alloc_old (w := wr) hlw o v
      simp only [AAr.zero] at z0 z1 z2 z3 z4
      by_cases hlt : k < L.length
      · have hltz : (k : Int) < (L.length : Int) := by omega
        have hst := fnd_drop (p := p) hlt
        rw [← HF.out] at hst
        have HBA : Hid (Below w1.heap.size w1 (wr.alloc (.cells (L.getD k AAr.zero).arr 55))) := HB.out.alloc HB.out.size _
        obtain ⟨g, off, rfl, hg, c0, c1, c2, c3, c4⟩ := AAr.sn ((HS.out.below HB1.out).below HB.out) hlt
        have HBW : Hid (Below w.heap.size w wr) := below_call HB1.out HB1.out.size HB.out
        generalize L.getD k AAr.zero = d at *
        clear HB
        obtain ⟨da, db, dw, dx, dh⟩ := d
        unfold AAr.arr at *
        simp only at *
        by_cases t1 : da ≤ p
        · by_cases t2 : p < db
          · rw [if_pos ⟨t1, t2⟩] at hst
            have HR : Hid (fndA p L = some ⟨da, db, dw, dx, dh⟩) := hst
            clear hst HF HX1 XR
            clear HBA
            go_wp2
            refine bodyPost_ret (v := .tuple #[av ⟨da, db, dw, dx, dh⟩, .nilIface]) ?_ rfl ⟨Or.inl ⟨HM.out, congrArg Ending.returned (congrArg fndV HR.out.symm)⟩, ?_⟩
            · have hca := cell_alloc_old (w := ((((wr.setCell ⟨w.heap.size, 0, none⟩ (.int .i64 da)).setCell ⟨w.heap.size, 1, none⟩ (.int .i64 db)).setCell ⟨w.heap.size, 2, none⟩ (.bool dw)).setCell ⟨w.heap.size, 3, none⟩ (.bool dx)).setCell ⟨w.heap.size, 4, none⟩ (.bool dh)) (b := w.heap.size) (by simp; exact hlw)
              simp [results, Try.results54, go_sem, av, hca, z0, z1, z2, z3, z4]
            · have hb := below_set5 HBW.out (Nat.le_refl _) (.int .i64 da) (.int .i64 db) (.bool dw) (.bool dx) (.bool dh)
              exact hb.alloc hb.size _
          · rw [if_neg (fun h => t2 h.2)] at hst
            have HR : Hid (fndA p L = fndA p (L.drop (k + 1))) := hst
            clear hst HF XR
            go_wp2
            go_roundw
            case rel => exact ⟨k + 1, by omega, by go_num, HR, HBA⟩
            case measure => simp only [intOf]; omega
        · rw [if_neg (fun h => t1 h.1)] at hst
          have HR : Hid (fndA p L = fndA p (L.drop (k + 1))) := hst
          clear hst HF XR
          go_wp2
          go_roundw
          case rel => exact ⟨k + 1, by omega, by go_num, HR, HBA⟩
          case measure => simp only [intOf]; omega
      · obtain rfl : k = L.length := by omega
        have HR : Hid (fndA p L = none) := by
          have := HF.out
          rwa [List.drop_length] at this
        have HBB : Hid (Below w.heap.size w wr) := below_call HB1.out HB1.out.size HB.out
        go_wp2
        refine bodyPost_ret (v := .tuple #[av AAr.zero, .iface 48 (.int .i64 3)]) ?_ rfl ⟨Or.inl ⟨HM.out, congrArg Ending.returned (congrArg fndV HR.out.symm)⟩, ?_⟩
        · simp [results, Try.results54, go_sem, av, AAr.zero, z0, z1, z2, z3, z4]
        · exact below_set5 HBB.out (Nat.le_refl _) _ _ _ _ _
  · have HM : Hid (¬ MayA L) := hM
    clear hM hb hC
    go_wp2
    refine bodyPost_ret (v := .tuple #[av AAr.zero, .iface 48 (.int .i64 1)]) ?_ rfl ⟨Or.inr ⟨HM.out, rfl⟩, ?_⟩
    · simp [results, Try.results54, go_sem, av, AAr.zero, z0, z1, z2, z3, z4]
    · exact below_set5 HB1.out (Nat.le_refl _) _ _ _ _ _
end Go.Proofs.Ytoimmapdkapheaa
/- Room. -/
namespace Go.Proofs.Ytoimmapdkapheaa
set_option maxRecDepth 4000
open Go.RowKit

theorem rm_drop {n f : Int} {L : List AAr} {k : Nat} (h : k < L.length) : rmA n f (L.drop k) = if n ≤ (L.getD k AAr.zero).a - f then f else rmA n (L.getD k AAr.zero).b (L.drop (k + 1)) := by
  rw [drop_cons L h]
  rfl
/-- What Room tells of a list that may be. -/
def rmV (z : Int) : Value := if z < 0 then .tuple #[.int .i64 0, .iface 48 (.int .i64 5)] else .tuple #[.int .i64 z, .nilIface]
theorem rmV_at {z : Int} (h : 0 ≤ z) : rmV z = .tuple #[.int .i64 z, .nilIface] := if_neg (by omega)
theorem mem_span {L : List AAr} (h : NrmA L) {k : Nat} (hk : k < L.length) : 0 ≤ (L.getD k AAr.zero).a ∧ (L.getD k AAr.zero).a < (L.getD k AAr.zero).b ∧ (L.getD k AAr.zero).b ≤ 4096 := by
  rw [List.getD_eq_getElem?_getD, List.getElem?_eq_getElem hk]
  exact nrm_span h (List.getElem_mem hk)
end Go.Proofs.Ytoimmapdkapheaa
/- What of a list lies within; whether it covers. -/
namespace Go.Proofs.Ytoimmapdkapheaa
set_option maxRecDepth 4000
open Go.RowKit

theorem getD_take1 (L : List AAr) {k : Nat} (h : k < L.length) (f t : Int) : clipA f t (L.take (k + 1)) = clipA f t (L.take k) ++ clip1 f t (L.getD k AAr.zero) := by
  rw [take_one L h AAr.zero, clip_snoc]
theorem AAr.new2 (w : World) (o : Obj) (d : AAr) : At rAAr ((w.alloc o).alloc (.cells d.arr 55)) (w.heap.size + 1) 0 d := by
  have h := At.new (R := rAAr) (w.alloc o) d (.cells d.arr 55) rfl
  rwa [show (w.alloc o).heap.size = w.heap.size + 1 by simp] at h
set_option maxRecDepth 100000 in
set_option maxHeartbeats 4000000 in
theorem within_any {w : World} {ao : Option Addr} {c : Nat} {L : List AAr} (hs : Sn rAAr w ao L) (hm : L.length ≤ 1000) (f t : Int) :
    Calls Try.prog 69 #[.slice ao L.length c, .int .i64 f, .int .i64 t] w fun e w' => ∃ v, e = .returned v ∧ Row rAAr w.heap.size w' v (clipA f t L) ∧ Below w.heap.size w w' := by
  have HS : Hid (Sn rAAr w ao L) := hs
  clear hs
  go_enter Try.func69, Try.ntmps69
  go_wp2
  go_loopw [7, 12] (fun vv iv W => ∃ k : Nat, k ≤ L.length ∧ iv = .int .i64 k ∧ Hid (Row rAAr w.heap.size W vv (clipA f t (L.take k))) ∧ Hid (Below w.heap.size w W)) (fun _ iv _ => L.length - (intOf iv).toNat)
  case atStart => exact ⟨0, Nat.zero_le _, rfl, Row.nil _ _ _, Below.refl _ _⟩
  case round =>
    obtain ⟨k, hk, rfl, HV, HB⟩ := hrel
    by_cases hlt : k < L.length
    · have hltz : (k : Int) < (L.length : Int) := by omega
      obtain ⟨g, off, rfl, hg, c0, c1, c2, c3, c4⟩ := AAr.sn (HS.out.below HB.out) hlt
      have hcl := getD_take1 L hlt f t
      have hcn := clip_len f t (L.take k)
      have hcn2 : (L.take k).length ≤ 1000 := by rw [List.length_take]; omega
      generalize L.getD k AAr.zero = d at *
      obtain ⟨da, db, dw, dx, dh⟩ := d
      simp only at *
      have HC : Hid (clipA f t (L.take (k + 1)) = clipA f t (L.take k) ++ clip1 f t ⟨da, db, dw, dx, dh⟩) := hcl
      have HCN : Hid ((clipA f t (L.take k)).length ≤ 1000) := Nat.le_trans hcn hcn2
      clear hcl hcn hcn2
      by_cases h1 : f ≤ da
      · by_cases h2 : db ≤ t
        · have HC2 : Hid (clipA f t (L.take (k + 1)) = clipA f t (L.take k) ++ if da < db then [⟨da, db, dw, dx, dh⟩] else []) := by
            have := HC.out
            unfold clip1 at this
            rw [show max da f = da by omega, show min db t = db by omega] at this
            exact this
          clear HC
          by_cases t1 : da < db
          · have HC3 : Hid (clipA f t (L.take (k + 1)) = clipA f t (L.take k) ++ [⟨da, db, dw, dx, dh⟩]) := by
              have := HC2.out
              rwa [if_pos t1] at this
            clear HC2
            generalize clipA f t (L.take k) = PL at *
            have HVV : Hid (∀ o1 o2, Row rAAr w.heap.size ((wr.alloc o1).alloc o2) u7 PL) := fun o1 o2 => (HV.out.below ((Below.refl _ _).alloc (Nat.le_refl _) o1)).below ((Below.refl _ _).alloc (Nat.le_refl _) o2)
            have HSZ : Hid (w.heap.size ≤ wr.heap.size) := HB.out.size
            go_wp2_with (at_builtin; refine list_app AAr.kin rfl _ _ rfl w.heap.size _ PL [⟨da, db, dw, dx, dh⟩] rfl (HVV.out _ _) (some ⟨wr.heap.size + 1, 0, none⟩) 1 1 rfl rfl ?a2 ?a3 ?a4 ?a5 ?_)
            case a2 => exact Seen.one (by simp) (AAr.new2 _ _ ⟨da, db, dw, dx, dh⟩) 1
            case a3 => have := HCN.out; show PL.length + 1 ≤ maxLen; unfold maxLen; omega
            case a4 => have := HCN.out; show (PL.length + 1) * 24 ≤ 140737488355328; omega
            case a5 => have := HSZ.out; simp; omega
            intro v' w2 hrow hgrow
            have HR2 : Hid (Row rAAr w.heap.size w2 v' (PL ++ [⟨da, db, dw, dx, dh⟩])) := hrow
            have HB2 : Hid (Below w.heap.size w w2) := ((HB.out.alloc HSZ.out _).alloc (by have := HSZ.out; simp; omega) _).grown hgrow (by have := HSZ.out; simp; omega) (fun k hk => (HV.out.lt k hk).1)
            clear hrow hgrow HV HB HVV HSZ
            go_wp2
            go_roundw
            case rel => exact ⟨k + 1, by omega, by go_num, by rw [HC3.out]; exact HR2, HB2⟩
            case measure => simp only [intOf]; omega
          · have HC3 : Hid (clipA f t (L.take (k + 1)) = clipA f t (L.take k)) := by
              have := HC2.out
              rwa [if_neg t1, List.append_nil] at this
            clear HC2
            have HVV : Hid (∀ o1, Row rAAr w.heap.size (wr.alloc o1) u7 (clipA f t (L.take (k + 1)))) := fun o1 => by rw [HC3.out]; exact HV.out.below ((Below.refl _ _).alloc (Nat.le_refl _) o1)
            have HBA : Hid (∀ o1, Below w.heap.size w (wr.alloc o1)) := fun o1 => HB.out.alloc HB.out.size o1
            clear HV HB HC3
            go_wp2
            go_roundw
            case rel => exact ⟨k + 1, by omega, by go_num, HVV.out _, HBA.out _⟩
            case measure => simp only [intOf]; omega
        · have HC2 : Hid (clipA f t (L.take (k + 1)) = clipA f t (L.take k) ++ if da < t then [⟨da, t, dw, dx, dh⟩] else []) := by
            have := HC.out
            unfold clip1 at this
            rw [show max da f = da by omega, show min db t = t by omega] at this
            exact this
          clear HC
          by_cases t1 : da < t
          · have HC3 : Hid (clipA f t (L.take (k + 1)) = clipA f t (L.take k) ++ [⟨da, t, dw, dx, dh⟩]) := by
              have := HC2.out
              rwa [if_pos t1] at this
            clear HC2
            generalize clipA f t (L.take k) = PL at *
            have HVV : Hid (∀ o1 o2, Row rAAr w.heap.size ((wr.alloc o1).alloc o2) u7 PL) := fun o1 o2 => (HV.out.below ((Below.refl _ _).alloc (Nat.le_refl _) o1)).below ((Below.refl _ _).alloc (Nat.le_refl _) o2)
            have HSZ : Hid (w.heap.size ≤ wr.heap.size) := HB.out.size
            go_wp2_with (at_builtin; refine list_app AAr.kin rfl _ _ rfl w.heap.size _ PL [⟨da, t, dw, dx, dh⟩] rfl (HVV.out _ _) (some ⟨wr.heap.size + 1, 0, none⟩) 1 1 rfl rfl ?a2 ?a3 ?a4 ?a5 ?_)
            case a2 => exact Seen.one (by simp) (AAr.new2 _ _ ⟨da, t, dw, dx, dh⟩) 1
            case a3 => have := HCN.out; show PL.length + 1 ≤ maxLen; unfold maxLen; omega
            case a4 => have := HCN.out; show (PL.length + 1) * 24 ≤ 140737488355328; omega
            case a5 => have := HSZ.out; simp; omega
            intro v' w2 hrow hgrow
            have HR2 : Hid (Row rAAr w.heap.size w2 v' (PL ++ [⟨da, t, dw, dx, dh⟩])) := hrow
            have HB2 : Hid (Below w.heap.size w w2) := ((HB.out.alloc HSZ.out _).alloc (by have := HSZ.out; simp; omega) _).grown hgrow (by have := HSZ.out; simp; omega) (fun k hk => (HV.out.lt k hk).1)
            clear hrow hgrow HV HB HVV HSZ
            go_wp2
            go_roundw
            case rel => exact ⟨k + 1, by omega, by go_num, by rw [HC3.out]; exact HR2, HB2⟩
            case measure => simp only [intOf]; omega
          · have HC3 : Hid (clipA f t (L.take (k + 1)) = clipA f t (L.take k)) := by
              have := HC2.out
              rwa [if_neg t1, List.append_nil] at this
            clear HC2
            have HVV : Hid (∀ o1, Row rAAr w.heap.size (wr.alloc o1) u7 (clipA f t (L.take (k + 1)))) := fun o1 => by rw [HC3.out]; exact HV.out.below ((Below.refl _ _).alloc (Nat.le_refl _) o1)
            have HBA : Hid (∀ o1, Below w.heap.size w (wr.alloc o1)) := fun o1 => HB.out.alloc HB.out.size o1
            clear HV HB HC3
            go_wp2
            go_roundw
            case rel => exact ⟨k + 1, by omega, by go_num, HVV.out _, HBA.out _⟩
            case measure => simp only [intOf]; omega
      · by_cases h2 : db ≤ t
        · have HC2 : Hid (clipA f t (L.take (k + 1)) = clipA f t (L.take k) ++ if f < db then [⟨f, db, dw, dx, dh⟩] else []) := by
            have := HC.out
            unfold clip1 at this
            rw [show max da f = f by omega, show min db t = db by omega] at this
            exact this
          clear HC
          by_cases t1 : f < db
          · have HC3 : Hid (clipA f t (L.take (k + 1)) = clipA f t (L.take k) ++ [⟨f, db, dw, dx, dh⟩]) := by
              have := HC2.out
              rwa [if_pos t1] at this
            clear HC2
            generalize clipA f t (L.take k) = PL at *
            have HVV : Hid (∀ o1 o2, Row rAAr w.heap.size ((wr.alloc o1).alloc o2) u7 PL) := fun o1 o2 => (HV.out.below ((Below.refl _ _).alloc (Nat.le_refl _) o1)).below ((Below.refl _ _).alloc (Nat.le_refl _) o2)
            have HSZ : Hid (w.heap.size ≤ wr.heap.size) := HB.out.size
            go_wp2_with (at_builtin; refine list_app AAr.kin rfl _ _ rfl w.heap.size _ PL [⟨f, db, dw, dx, dh⟩] rfl (HVV.out _ _) (some ⟨wr.heap.size + 1, 0, none⟩) 1 1 rfl rfl ?a2 ?a3 ?a4 ?a5 ?_)
            case a2 => exact Seen.one (by simp) (AAr.new2 _ _ ⟨f, db, dw, dx, dh⟩) 1
            case a3 => have := HCN.out; show PL.length + 1 ≤ maxLen; unfold maxLen; omega
            case a4 => have := HCN.out; show (PL.length + 1) * 24 ≤ 140737488355328; omega
            case a5 => have := HSZ.out; simp; omega
            intro v' w2 hrow hgrow
            have HR2 : Hid (Row rAAr w.heap.size w2 v' (PL ++ [⟨f, db, dw, dx, dh⟩])) := hrow
            have HB2 : Hid (Below w.heap.size w w2) := ((HB.out.alloc HSZ.out _).alloc (by have := HSZ.out; simp; omega) _).grown hgrow (by have := HSZ.out; simp; omega) (fun k hk => (HV.out.lt k hk).1)
            clear hrow hgrow HV HB HVV HSZ
            go_wp2
            go_roundw
            case rel => exact ⟨k + 1, by omega, by go_num, by rw [HC3.out]; exact HR2, HB2⟩
            case measure => simp only [intOf]; omega
          · have HC3 : Hid (clipA f t (L.take (k + 1)) = clipA f t (L.take k)) := by
              have := HC2.out
              rwa [if_neg t1, List.append_nil] at this
            clear HC2
            have HVV : Hid (∀ o1, Row rAAr w.heap.size (wr.alloc o1) u7 (clipA f t (L.take (k + 1)))) := fun o1 => by rw [HC3.out]; exact HV.out.below ((Below.refl _ _).alloc (Nat.le_refl _) o1)
            have HBA : Hid (∀ o1, Below w.heap.size w (wr.alloc o1)) := fun o1 => HB.out.alloc HB.out.size o1
            clear HV HB HC3
            go_wp2
            go_roundw
            case rel => exact ⟨k + 1, by omega, by go_num, HVV.out _, HBA.out _⟩
            case measure => simp only [intOf]; omega
        · have HC2 : Hid (clipA f t (L.take (k + 1)) = clipA f t (L.take k) ++ if f < t then [⟨f, t, dw, dx, dh⟩] else []) := by
            have := HC.out
            unfold clip1 at this
            rw [show max da f = f by omega, show min db t = t by omega] at this
            exact this
          clear HC
          by_cases t1 : f < t
          · have HC3 : Hid (clipA f t (L.take (k + 1)) = clipA f t (L.take k) ++ [⟨f, t, dw, dx, dh⟩]) := by
              have := HC2.out
              rwa [if_pos t1] at this
            clear HC2
            generalize clipA f t (L.take k) = PL at *
            have HVV : Hid (∀ o1 o2, Row rAAr w.heap.size ((wr.alloc o1).alloc o2) u7 PL) := fun o1 o2 => (HV.out.below ((Below.refl _ _).alloc (Nat.le_refl _) o1)).below ((Below.refl _ _).alloc (Nat.le_refl _) o2)
            have HSZ : Hid (w.heap.size ≤ wr.heap.size) := HB.out.size
            go_wp2_with (at_builtin; refine list_app AAr.kin rfl _ _ rfl w.heap.size _ PL [⟨f, t, dw, dx, dh⟩] rfl (HVV.out _ _) (some ⟨wr.heap.size + 1, 0, none⟩) 1 1 rfl rfl ?a2 ?a3 ?a4 ?a5 ?_)
            case a2 => exact Seen.one (by simp) (AAr.new2 _ _ ⟨f, t, dw, dx, dh⟩) 1
            case a3 => have := HCN.out; show PL.length + 1 ≤ maxLen; unfold maxLen; omega
            case a4 => have := HCN.out; show (PL.length + 1) * 24 ≤ 140737488355328; omega
            case a5 => have := HSZ.out; simp; omega
            intro v' w2 hrow hgrow
            have HR2 : Hid (Row rAAr w.heap.size w2 v' (PL ++ [⟨f, t, dw, dx, dh⟩])) := hrow
            have HB2 : Hid (Below w.heap.size w w2) := ((HB.out.alloc HSZ.out _).alloc (by have := HSZ.out; simp; omega) _).grown hgrow (by have := HSZ.out; simp; omega) (fun k hk => (HV.out.lt k hk).1)
            clear hrow hgrow HV HB HVV HSZ
            go_wp2
            go_roundw
            case rel => exact ⟨k + 1, by omega, by go_num, by rw [HC3.out]; exact HR2, HB2⟩
            case measure => simp only [intOf]; omega
          · have HC3 : Hid (clipA f t (L.take (k + 1)) = clipA f t (L.take k)) := by
              have := HC2.out
              rwa [if_neg t1, List.append_nil] at this
            clear HC2
            have HVV : Hid (∀ o1, Row rAAr w.heap.size (wr.alloc o1) u7 (clipA f t (L.take (k + 1)))) := fun o1 => by rw [HC3.out]; exact HV.out.below ((Below.refl _ _).alloc (Nat.le_refl _) o1)
            have HBA : Hid (∀ o1, Below w.heap.size w (wr.alloc o1)) := fun o1 => HB.out.alloc HB.out.size o1
            clear HV HB HC3
            go_wp2
            go_roundw
            case rel => exact ⟨k + 1, by omega, by go_num, HVV.out _, HBA.out _⟩
            case measure => simp only [intOf]; omega
    · obtain rfl : k = L.length := by omega
      have HV2 : Hid (Row rAAr w.heap.size wr u7 (clipA f t L)) := by
        have := HV.out
        rwa [List.take_length] at this
      clear HV
      go_wp2
      go_ret
      exact ⟨u7, rfl, HV2.out, HB.out⟩
end Go.Proofs.Ytoimmapdkapheaa
/- Whether areas leave no page out; below, above. -/
namespace Go.Proofs.Ytoimmapdkapheaa
set_option maxRecDepth 4000
open Go.RowKit

theorem below_any {w : World} {ao : Option Addr} {c : Nat} {L : List AAr} (hs : Sn rAAr w ao L) (hm : L.length ≤ 1000) (t : Int) :
    Calls Try.prog 60 #[.slice ao L.length c, .int .i64 t] w fun e w' => ∃ v, e = .returned v ∧ Row rAAr w.heap.size w' v (clipA 0 t L) ∧ Below w.heap.size w w' := by
  have hW := within_any (c := c) hs hm 0 t
  go_enter Try.func60, Try.ntmps60
  go_wp2_with fail
  refine hW.mono ?_
  rintro e w1 ⟨v, rfl, hr, hb⟩
  have HR : Hid (Row rAAr w.heap.size w1 v (clipA 0 t L) ∧ Below w.heap.size w w1) := ⟨hr, hb⟩
  clear hr hb hW
  go_wp2
  go_ret
  exact ⟨v, rfl, HR.out⟩
theorem above_any {w : World} {ao : Option Addr} {c : Nat} {L : List AAr} (hs : Sn rAAr w ao L) (hm : L.length ≤ 1000) (t : Int) :
    Calls Try.prog 61 #[.slice ao L.length c, .int .i64 t] w fun e w' => ∃ v, e = .returned v ∧ Row rAAr w.heap.size w' v (clipA t 4096 L) ∧ Below w.heap.size w w' := by
  have hW := within_any (c := c) hs hm t 4096
  go_enter Try.func61, Try.ntmps61
  go_wp2_with fail
  refine hW.mono ?_
  rintro e w1 ⟨v, rfl, hr, hb⟩
  have HR : Hid (Row rAAr w.heap.size w1 v (clipA t 4096 L) ∧ Below w.heap.size w w1) := ⟨hr, hb⟩
  clear hr hb hW
  go_wp2
  go_ret
  exact ⟨v, rfl, HR.out⟩

theorem cov_drop {f t : Int} {L : List AAr} {k : Nat} (h : k < L.length) : covA f t (L.drop k) = if (L.getD k AAr.zero).a = f then covA (L.getD k AAr.zero).b t (L.drop (k + 1)) else false := by
  rw [drop_cons L h]
  rfl
set_option maxRecDepth 100000 in
set_option maxHeartbeats 4000000 in
theorem covers_any {w : World} {ao : Option Addr} {c : Nat} {L : List AAr} (hs : Sn rAAr w ao L) (hm : L.length ≤ 1000) (f t : Int) :
    Calls Try.prog 70 #[.slice ao L.length c, .int .i64 f, .int .i64 t] w fun e w' => e = .returned (.bool (covA f t L)) ∧ Below w.heap.size w w' := by
  have HS : Hid (Sn rAAr w ao L) := hs
  clear hs
  go_enter Try.func70, Try.ntmps70
  go_wp2
  go_loopw [1, 11] (fun fv iv W => ∃ (k : Nat) (x : Int), k ≤ L.length ∧ iv = .int .i64 k ∧ fv = .int .i64 x ∧ Hid (covA f t L = covA x t (L.drop k)) ∧ Hid (Below w.heap.size w W)) (fun _ iv _ => L.length - (intOf iv).toNat)
  case atStart => exact ⟨0, f, Nat.zero_le _, rfl, rfl, rfl, Below.refl _ _⟩
  case round =>
    obtain ⟨k, x, hk, rfl, rfl, HF, HB⟩ := hrel
    by_cases hlt : k < L.length
    · have hltz : (k : Int) < (L.length : Int) := by omega
      have hst := cov_drop (f := x) (t := t) hlt
      rw [← HF.out] at hst
      have HBA : Hid (Below w.heap.size w (wr.alloc (.cells (L.getD k AAr.zero).arr 55))) := HB.out.alloc HB.out.size _
      obtain ⟨g, off, rfl, hg, c0, c1, c2, c3, c4⟩ := AAr.sn (HS.out.below HB.out) hlt
      generalize L.getD k AAr.zero = d at *
      clear HB HF
      obtain ⟨da, db, dw, dx, dh⟩ := d
      unfold AAr.arr at *
      simp only at *
      by_cases t1 : da = x
      · rw [if_pos t1] at hst
        subst t1
        have HR : Hid (covA f t L = covA db t (L.drop (k + 1))) := hst
        clear hst
        go_wp2
        go_roundw
        case rel => exact ⟨k + 1, db, by omega, by go_num, rfl, HR, HBA⟩
        case measure => simp only [intOf]; omega
      · rw [if_neg t1] at hst
        have HR : Hid (covA f t L = false) := hst
        have t1' : (da != x) = true := by simpa using t1
        clear hst t1
        go_wp2
        go_ret
        exact ⟨ret_bool HR.out.symm, HBA.out⟩
    · obtain rfl : k = L.length := by omega
      have HR : Hid (covA f t L = decide (x = t)) := by
        have := HF.out
        rwa [List.drop_length] at this
      clear HF
      go_wp2
      go_ret
      exact ⟨ret_bool (by rw [HR.out]; first | rfl | simp), HB.out⟩
end Go.Proofs.Ytoimmapdkapheaa
/- Lists side by side. -/
namespace Go.Proofs.Ytoimmapdkapheaa
set_option maxRecDepth 4000
open Go.RowKit

theorem stp_zero (d : AAr) : stpA [] d = [d] := rfl
theorem stp_set {PL : List AAr} {m : Nat} (hm : PL.length = m + 1) {d : AAr} (h : oneB (PL.getD m AAr.zero) d = true) : stpA PL d = PL.set m ⟨(PL.getD m AAr.zero).a, d.b, (PL.getD m AAr.zero).w, (PL.getD m AAr.zero).x, (PL.getD m AAr.zero).h⟩ := by
  unfold stpA glueB
  rw [hm, Nat.add_sub_cancel, h, if_pos (by simp)]
theorem stp_app {PL : List AAr} {m : Nat} (hm : PL.length = m + 1) {d : AAr} (h : oneB (PL.getD m AAr.zero) d = false) : stpA PL d = PL ++ [d] := by
  unfold stpA glueB
  rw [hm, Nat.add_sub_cancel, h, if_neg (by simp)]
theorem take_oneG {α : Type} (L : List α) {i : Nat} (h : i < L.length) (z : α) : L.take (i + 1) = L.take i ++ [L.getD i z] := by
  rw [List.take_add_one, List.getD_eq_getElem?_getD, List.getElem?_eq_getElem h]
  rfl
/-- Some lists, each as it lies. -/
abbrev Ls := Option Addr × Nat × List AAr
def Ls.v (x : Ls) : Value := .slice x.1 x.2.2.length x.2.1
def joinL (T : List Ls) : List AAr := T.flatMap fun x => x.2.2
/-- What side by side they tell. -/
def SideW (w : World) (M : List AAr) (e : Ending) (w' : World) : Prop :=
  (if M.length ≤ 64 then ∃ v, e = .returned (.tuple #[v, .nilIface]) ∧ Row rAAr w.heap.size w' v M else e = .returned (.tuple #[.slice none 0 0, .iface 48 (.int .i64 5)])) ∧ Below w.heap.size w w'

theorem Row.at' {α : Type} {R : Rec α} {B : Nat} {w : World} {v : Value} {l : List α} (h : Row R B w v l) {ao : Option Addr} {n c : Nat} (e : v = .slice ao n c) {k : Nat} (hk : k < l.length) : ∃ g, ao = some ⟨g, 0, none⟩ ∧ n = l.length ∧ B ≤ g ∧ g < w.heap.size ∧ l.length ≤ c ∧ c ≤ maxLen ∧ At R w g (k * R.n) (l.getD k R.zero) := by
  subst e
  exact h.at hk
set_option maxRecDepth 100000 in
set_option maxHeartbeats 8000000 in
theorem side_any {w : World} {b c : Nat} {T : List Ls} (hT : ∀ i, i < T.length → w.cell? ⟨b, i, none⟩ = some (Ls.v (T.getD i (none, 0, []))) ∧ Sn rAAr w (T.getD i (none, 0, [])).1 (T.getD i (none, 0, [])).2.2) (hb : b < w.heap.size) (hl : T.length ≤ 3) (hX : (joinL T).length ≤ 1000) :
    Calls Try.prog 59 #[.slice (some ⟨b, 0, none⟩) T.length c] w (SideW w (mrgA [] (joinL T))) := by
  have HT : Hid (∀ i, i < T.length → w.cell? ⟨b, i, none⟩ = some (Ls.v (T.getD i (none, 0, []))) ∧ Sn rAAr w (T.getD i (none, 0, [])).1 (T.getD i (none, 0, [])).2.2) := hT
  have HX : Hid ((joinL T).length ≤ 1000) := hX
  clear hT hX
  go_enter Try.func59, Try.ntmps59
  go_wp2
  go_loopw [4, 12] (fun vv iv W => ∃ j : Nat, j ≤ T.length ∧ iv = .int .i64 j ∧ Hid (Row rAAr w.heap.size W vv (mrgA [] (joinL (T.take j)))) ∧ Hid (Below w.heap.size w W)) (fun _ iv _ => T.length - (intOf iv).toNat)
  case atStart => exact ⟨0, Nat.zero_le _, rfl, Row.nil _ _ _, Below.refl _ _⟩
  case round =>
    obtain ⟨j, hj, rfl, HV, HB⟩ := hrel
    by_cases hjt : j < T.length
    · have hjz : (j : Int) < (T.length : Int) := by omega
      obtain ⟨q0, q1⟩ := HT.out j hjt
      have hjo : joinL (T.take (j + 1)) = joinL (T.take j) ++ (T.getD j (none, 0, [])).2.2 := by
        unfold joinL
        rw [take_oneG T hjt (none, 0, []), List.flatMap_append]
        simp only [List.flatMap_cons, List.flatMap_nil, List.append_nil]
      have hjl : (joinL (T.take (j + 1))).length ≤ 1000 := by
        have e : joinL T = joinL (T.take (j + 1)) ++ joinL (T.drop (j + 1)) := by
          unfold joinL
          rw [← List.flatMap_append, List.take_append_drop]
        have := HX.out
        rw [e, List.length_append] at this
        omega
      have hc : wr.cell? ⟨b, j, none⟩ = some (Ls.v (T.getD j (none, 0, []))) := ((bcell HB.out).1 b j hb).trans q0
      have hS := q1
      generalize T.getD j (none, 0, []) = x at *
      obtain ⟨ao, cx, L⟩ := x
      unfold Ls.v at hc
      simp only at hc hS hjo
      rw [hjo, List.length_append] at hjl
      have HS : Hid (Sn rAAr w ao L) := hS
      have HJ : Hid (joinL (T.take (j + 1)) = joinL (T.take j) ++ L) := hjo
      generalize joinL (T.take j) = XJ at *
      have HJL : Hid (XJ.length + L.length ≤ 1000) := hjl
      have hll : L.length ≤ 1000 := by omega
      have HV0 : Hid (Row rAAr w.heap.size wr u4 (mrgA [] (XJ ++ L.take 0))) := by
        rw [List.take_zero, List.append_nil]
        exact HV
      clear q0 q1 hS hjo hjl HV HT HX
      go_wp2
      go_loopw [4, 18] (fun vv iv W => ∃ k : Nat, k ≤ L.length ∧ iv = .int .i64 k ∧ Hid (Row rAAr w.heap.size W vv (mrgA [] (XJ ++ L.take k))) ∧ Hid (Below w.heap.size w W)) (fun _ iv _ => L.length - (intOf iv).toNat)
      case atStart => exact ⟨0, Nat.zero_le _, rfl, HV0, HB⟩
      case round =>
        obtain ⟨k, hk, rfl, HV, HC⟩ := hrel
        clear HV0 HB
        by_cases hlt : k < L.length
        · have hltz : (k : Int) < (L.length : Int) := by omega
          obtain ⟨g, off, rfl, hg, c0, c1, c2, c3, c4⟩ := AAr.sn (HS.out.below HC.out) hlt
          have hst : mrgA [] (XJ ++ L.take (k + 1)) = stpA (mrgA [] (XJ ++ L.take k)) (L.getD k AAr.zero) := by
            rw [take_one L hlt AAr.zero, ← List.append_assoc, mrg_append, mrg_one]
          have hpl : (mrgA [] (XJ ++ L.take k)).length ≤ 1000 := by
            have h1 := mrg_len (XJ ++ L.take k) []
            have h2 := HJL.out
            rw [List.length_append, List.length_take, List.length_nil] at h1
            omega
          generalize mrgA [] (XJ ++ L.take k) = PL at *
          generalize L.getD k AAr.zero = d at *
          have HSZ : Hid (w.heap.size ≤ wr.heap.size) := HC.out.size
          have HBA : Hid (∀ o1, Below w.heap.size w (wr.alloc o1)) := fun o1 => HC.out.alloc HC.out.size o1
          have HBA2 : Hid (∀ n o1 o2, Below w.heap.size w (((wr.drewN n).alloc o1).alloc o2)) := fun n o1 o2 => ((below_drewN HC.out n).alloc HC.out.size o1).alloc (by have := HC.out.size; simp; omega) o2
          have HVA : Hid (∀ n o1 o2, Row rAAr w.heap.size (((wr.drewN n).alloc o1).alloc o2) u4 PL) := fun n o1 o2 => (HV.out.below ((below_drewN (Below.refl _ _) n).alloc (Nat.le_refl _) o1)).below ((Below.refl _ _).alloc (Nat.le_refl _) o2)
          have HPL : Hid (PL.length ≤ 1000) := hpl
          rcases Nat.eq_zero_or_pos PL.length with h0 | h0
          · obtain rfl := List.eq_nil_of_length_eq_zero h0
            rw [stp_zero] at hst
            have HST : Hid (mrgA [] (XJ ++ L.take (k + 1)) = [] ++ [d]) := hst
            obtain ⟨a4, c4', e4⟩ := HV.out.form
            subst e4
            rw [List.length_nil] at *
            obtain ⟨da, db, dw, dx, dh⟩ := d
            simp only at *
            clear hst h0 hpl HV HC
            go_wp2
            go_quiet (fail)
            go_wp2_with (at_builtin; refine list_app AAr.kin rfl _ _ rfl w.heap.size _ [] [⟨da, db, dw, dx, dh⟩] rfl (HVA.out _ _ _) (some ⟨wr.heap.size + 1, 0, none⟩) 1 1 rfl rfl ?a2 ?a3 ?a4 ?a5 ?_)
            case a2 => exact Seen.one (by simp) (AAr.new2 _ _ ⟨da, db, dw, dx, dh⟩) 1
            case a3 => show 0 + 1 ≤ maxLen; unfold maxLen; omega
            case a4 => show (0 + 1) * 24 ≤ 140737488355328; omega
            case a5 => have := HSZ.out; simp; omega
            intro v' w2 hrow hgrow
            have HR2 : Hid (Row rAAr w.heap.size w2 v' ([] ++ [⟨da, db, dw, dx, dh⟩])) := hrow
            have HB2 : Hid (Below w.heap.size w w2) := (HBA2.out _ _ _).grown hgrow (by have := HSZ.out; simp; omega) (fun k hk => ((HVA.out 0 default default).lt k hk).1)
            clear hrow hgrow HVA HSZ HBA2 HBA
            go_wp2
            go_roundw
            case rel => exact ⟨k + 1, by omega, by go_num, by rw [HST.out]; exact HR2, HB2⟩
            case measure => simp only [intOf]; omega
          · obtain ⟨m, hm⟩ : ∃ m, PL.length = m + 1 := ⟨PL.length - 1, by omega⟩
            rcases HV.out.cases with ⟨-, e0⟩ | ⟨g2, c2', cur, e2, hgB, hg2, -, hlc, hcm, -, -⟩
            · rw [e0] at h0
              simp at h0
            obtain ⟨g3, e3, -, -, -, -, -, hat⟩ := HV.out.at' e2 (show m < PL.length by omega)
            cases e3
            obtain ⟨p0, p1, p2, p3, p4⟩ := AAr.at hat
            simp only [show rAAr.n = 5 from rfl, show rAAr.zero = AAr.zero from rfl] at p0 p1 p2 p3 p4
            subst e2
            have hOn := fun w => one_any (PL.getD m AAr.zero) d w
            have HSET : Hid (oneB (PL.getD m AAr.zero) d = true → mrgA [] (XJ ++ L.take (k + 1)) = PL.set m ⟨(PL.getD m AAr.zero).a, d.b, (PL.getD m AAr.zero).w, (PL.getD m AAr.zero).x, (PL.getD m AAr.zero).h⟩) := fun h => hst.trans (stp_set hm h)
            have HAPP : Hid (oneB (PL.getD m AAr.zero) d = false → mrgA [] (XJ ++ L.take (k + 1)) = PL ++ [d]) := fun h => hst.trans (stp_app hm h)
            have HE : Hid (∃ x, x = PL.getD m AAr.zero) := ⟨_, rfl⟩
            have HPE : Hid (∀ x, x = PL.getD m AAr.zero → x = PL.getD m AAr.zero) := fun _ h => h
            have HM : Hid (PL.length = m + 1) := hm
            have hm1 : m ≤ 999 := by omega
            have hmz : (m : Int) < (PL.length : Int) := by omega
            have hnm : (PL.length : Int) - 1 = (m : Int) := by omega
            have HVA0 : Hid (∀ o1, Row rAAr w.heap.size (wr.alloc o1) (.slice (some ⟨g2, 0, none⟩) PL.length c2') PL) := fun o1 => HV.out.below ((Below.refl _ _).alloc (Nat.le_refl _) o1)
            obtain ⟨e, he⟩ : ∃ e, PL.getD m AAr.zero = e := ⟨_, rfl⟩
            have HEE : Hid (PL.getD m AAr.zero = e) := he
            rw [he] at p0 p1 p2 p3 p4 hOn HSET HAPP
            have hwm : IntKind.i64.wrap (m : Int) = (m : Int) := by rw [IntKind.wrap_i64]; omega
            have hm0 : (0 : Int) ≤ (m : Int) := by omega
            have hWS : ∀ n o1, wr.heap.size < ((wr.drewN n).alloc o1).heap.size := fun n o1 => by simp
            have hg3 : ∀ n o1, g2 < ((wr.drewN n).alloc o1).heap.size := fun n o1 => by simp; omega
            clear hst h0 hpl HE HPE he hm hlc hat HV
            generalize oneB e d = o at *
            obtain ⟨da, db, dw, dx, dh⟩ := d
            obtain ⟨ea, eb, ew, ex, eh⟩ := e
            unfold av at hOn
            simp only at *
            go_wp2
            go_region_held3 (fun w' => w'.cell? ⟨wr.heap.size, 0, none⟩ = some (.int .i64 da) ∧ w'.cell? ⟨wr.heap.size, 1, none⟩ = some (.int .i64 db) ∧ w'.cell? ⟨wr.heap.size, 2, none⟩ = some (.bool dw) ∧ w'.cell? ⟨wr.heap.size, 3, none⟩ = some (.bool dx) ∧ w'.cell? ⟨wr.heap.size, 4, none⟩ = some (.bool dh) ∧ w'.cell? ⟨g2, m * 5, none⟩ = some (.int .i64 ea) ∧ w'.cell? ⟨g2, m * 5 + 1, none⟩ = some (.int .i64 eb) ∧ w'.cell? ⟨g2, m * 5 + 2, none⟩ = some (.bool ew) ∧ w'.cell? ⟨g2, m * 5 + 3, none⟩ = some (.bool ex) ∧ w'.cell? ⟨g2, m * 5 + 4, none⟩ = some (.bool eh)) (go_keep) (first | (go_at_call 73; refine (hOn _).mono ?_; rintro e w6 ⟨rfl, hb6⟩; have hx6 := fun o => (bcell hb6).1 wr.heap.size o (hWS _ _); have hx7 := fun o => ((bcell hb6).1 g2 o (hg3 _ _)).trans (cell_alloc_old hg2 o _)))
            have HB6 : Hid (Below w.heap.size w w6) := below_call (HBA.out _) (HBA.out (.cells #[.int .i64 da, .int .i64 db, .bool dw, .bool dx, .bool dh] 55)).size ⟨hb6.os, hb6.tape, hb6.output, hb6.size, hb6.block⟩
            have HR6 : Hid (Row rAAr w.heap.size w6 (.slice (some ⟨g2, 0, none⟩) PL.length c2') PL) := (HVA0.out (.cells #[.int .i64 da, .int .i64 db, .bool dw, .bool dx, .bool dh] 55)).below ⟨hb6.os, hb6.tape, hb6.output, hb6.size, hb6.block⟩
            have hf6 := HR6.out.frozen (m * 5 + 1)
            have hg6 : g2 < w6.heap.size := (HR6.out.lt g2 rfl).2
            clear hx6 hx7 hb6 hOn c0 c1 c2 c3 c4 p0 p1 p2 p3 p4
            cases o with
            | true =>
              have HY : Hid (mrgA [] (XJ ++ L.take (k + 1)) = PL.set m ⟨ea, db, ew, ex, eh⟩) := HSET.out (by first | rfl | trivial)
              clear HSET HAPP
              go_wp2
              go_roundw
              case rel =>
                refine ⟨k + 1, by omega, by go_num, ?_, ?_⟩
                · have hml : m < PL.length := by have := HM.out; omega
                  have h := HR6.out.put1 m 1 (.int .i64 db) ⟨ea, db, ew, ex, eh⟩ hml (by decide) (by rw [show PL.getD m rAAr.zero = ⟨ea, eb, ew, ex, eh⟩ from HEE.out]; rfl)
                  rw [HY.out]
                  exact h
                · exact HB6.out.trans ((Keeps.set w6 g2 _ _).below HB6.out.size fun c _ e => by rw [e]; exact hgB)
              case measure => simp only [intOf]; omega
            | false =>
              have HY : Hid (mrgA [] (XJ ++ L.take (k + 1)) = PL ++ [⟨da, db, dw, dx, dh⟩]) := HAPP.out (by first | rfl | trivial)
              clear HSET HAPP
              have HR7 : Hid (∀ o1, Row rAAr w.heap.size (w6.alloc o1) (.slice (some ⟨g2, 0, none⟩) PL.length c2') PL) := fun o1 => HR6.out.below ((Below.refl _ _).alloc (Nat.le_refl _) o1)
              go_wp2_with (at_builtin; refine list_app AAr.kin rfl _ _ rfl w.heap.size _ PL [⟨da, db, dw, dx, dh⟩] rfl (HR7.out _) (some ⟨w6.heap.size, 0, none⟩) 1 1 rfl rfl ?a2 ?a3 ?a4 ?a5 ?_)
              case a2 => exact Seen.one (by simp) (At.new (R := rAAr) w6 ⟨da, db, dw, dx, dh⟩ _ rfl) 1
              case a3 => have := HPL.out; show PL.length + 1 ≤ maxLen; unfold maxLen; omega
              case a4 => have := HPL.out; show (PL.length + 1) * 24 ≤ 140737488355328; omega
              case a5 => have := HB6.out.size; simp; omega
              intro v' w2 hrow hgrow
              have HR2 : Hid (Row rAAr w.heap.size w2 v' (PL ++ [⟨da, db, dw, dx, dh⟩])) := hrow
              have HB2 : Hid (Below w.heap.size w w2) := (HB6.out.alloc HB6.out.size _).grown hgrow (by have := HB6.out.size; simp; omega) (fun k hk => ((HR7.out default).lt k hk).1)
              clear hrow hgrow HR7 HR6
              go_wp2
              go_roundw
              case rel => exact ⟨k + 1, by omega, by go_num, by rw [HY.out]; exact HR2, HB2⟩
              case measure => simp only [intOf]; omega
        · obtain rfl : k = L.length := by omega
          have HV2 : Hid (Row rAAr w.heap.size wr u4 (mrgA [] (joinL (T.take (j + 1))))) := by
            have := HV.out
            rw [List.take_length, ← HJ.out] at this
            exact this
          clear HV
          go_wp2
          go_roundw
          case rel => exact ⟨j + 1, by omega, by go_num, HV2, HC⟩
          case measure => simp only [intOf]; omega
    · obtain rfl : j = T.length := by omega
      have hV := HV.out
      rw [List.take_length] at hV
      have HP : Hid (∀ e w', SideW w (mrgA [] (joinL T)) e w' → SideW w (mrgA [] (joinL T)) e w') := fun _ _ h => h
      generalize mrgA [] (joinL T) = M at *
      obtain ⟨am, cm, rfl⟩ := hV.form
      have HV2 : Hid (Row rAAr w.heap.size wr (.slice am M.length cm) M) := hV
      clear hV HV
      by_cases h64 : M.length ≤ 64
      · have h64z : ¬ 64 < (M.length : Int) := by omega
        go_wp2
        go_ret2
        refine ⟨?_, HB.out⟩
        rw [if_pos h64]
        exact ⟨_, rfl, HV2.out⟩
      · have h64z : 64 < (M.length : Int) := by omega
        go_wp2
        go_ret2
        refine ⟨?_, HB.out⟩
        rw [if_neg h64]
        rfl
end Go.Proofs.Ytoimmapdkapheaa
