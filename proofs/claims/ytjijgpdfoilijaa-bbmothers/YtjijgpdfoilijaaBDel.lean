/- maps.DeleteFunc over open places: whatever the order in which they come. -/
import Derived.Test.YtjijgpdfoilijaaBTell
namespace Go.Proofs.Ytjijgpdfoilijaa
open Go.RowKit

def slotM : Mk Try.prog (Int × Int) Opn := { t := 44, k := 53, e := 55, key := slotV, val := fun x => .pointer (some ⟨x.o, 0, none⟩), ok := slotOk, law := slotLaw, ht := Try.underlying44, inj := slot_inj, reads := slot_reads }

abbrev Gaps := List ((Int × Int) × Opn)
/-- No two share a block. -/
def Apart (l : Gaps) : Prop := ∀ p ∈ l, ∀ q ∈ l, p.1 ≠ q.1 → p.2.o ≠ q.2.o ∧ p.2.r ≠ q.2.r

section
variable (T : Opn → Opn) (gone : Opn → Bool)
/-- What becomes of one that has come. -/
def stayT (p : (Int × Int) × Opn) : Option ((Int × Int) × Opn) := if gone p.2 then none else some (p.1, T p.2)
def curF (dn : Int × Int → Bool) (p : (Int × Int) × Opn) : Option ((Int × Int) × Opn) := if dn p.1 then stayT T gone p else some p
/-- The places while a loop goes over them. -/
def cur (dn : Int × Int → Bool) (l : Gaps) : Gaps := l.filterMap (curF T gone dn)
def step (dn : Int × Int → Bool) (s : Int × Int) : Int × Int → Bool := fun a => dn a || decide (a = s)
end
section
variable {T : Opn → Opn} {gone : Opn → Bool} {dn : Int × Int → Bool} {l : Gaps}
theorem filterMap_congr' {α β : Type} {f g : α → Option β} : ∀ {l : List α}, (∀ x ∈ l, f x = g x) → l.filterMap f = l.filterMap g
  | [], _ => rfl
  | x :: r, h => by
    simp only [List.filterMap_cons, h x (by simp), filterMap_congr' (l := r) (fun y hy => h y (by simp [hy]))]
theorem cur_start : cur T gone (fun _ => false) l = l := by
  unfold cur
  rw [show curF T gone (fun _ => false) = some from by funext p; simp [curF]]
  simp
theorem curF_key {p q : (Int × Int) × Opn} (h : curF T gone dn p = some q) : q.1 = p.1 ∧ (dn p.1 = false → q = p) ∧ (dn p.1 = true → gone p.2 = false ∧ q = (p.1, T p.2)) := by
  unfold curF stayT at h
  cases hd : dn p.1 with
  | false => rw [hd] at h; simp at h; subst h; simp
  | true =>
    rw [hd] at h
    cases hg : gone p.2 with
    | true => rw [hg] at h; simp at h
    | false => rw [hg] at h; simp at h; subst h; simp
theorem cur_mem (hT : ∀ x, (T x).o = x.o ∧ (T x).r = x.r) {q : (Int × Int) × Opn} (h : q ∈ cur T gone dn l) : ∃ p ∈ l, q.1 = p.1 ∧ q.2.o = p.2.o ∧ q.2.r = p.2.r ∧ (dn q.1 = false → q = p) := by
  obtain ⟨p, hp, e⟩ := List.mem_filterMap.1 h
  obtain ⟨h1, h2, h3⟩ := curF_key e
  refine ⟨p, hp, h1, ?_⟩
  cases hd : dn p.1 with
  | false => rw [h2 hd]; simp
  | true =>
    rw [(h3 hd).2]
    exact ⟨(hT _).1, (hT _).2, fun e => by simp [hd] at e⟩
theorem cur_in {p : (Int × Int) × Opn} (hp : p ∈ cur T gone dn l) (hd : dn p.1 = false) : p ∈ l := by
  obtain ⟨q, hq, e⟩ := List.mem_filterMap.1 hp
  obtain ⟨h1, h2, _⟩ := curF_key e
  rw [h2 (by rw [← h1]; exact hd)]
  exact hq
theorem curF_other {p q : (Int × Int) × Opn} (h : q.1 ≠ p.1) : curF T gone (step dn p.1) q = curF T gone dn q := by
  simp [curF, step, h]
theorem curF_self {p : (Int × Int) × Opn} : curF T gone (step dn p.1) p = stayT T gone p := by
  simp [curF, step]
theorem same_key (hA : l.Pairwise fun p q => p.1 ≠ q.1) {p q : (Int × Int) × Opn} (hp : p ∈ l) (hq : q ∈ l) (h : p.1 = q.1) : p = q := by
  induction l with
  | nil => simp at hp
  | cons a r ih =>
    obtain ⟨h1, h2⟩ := List.pairwise_cons.1 hA
    rcases List.mem_cons.1 hp with rfl | hp'
    · rcases List.mem_cons.1 hq with rfl | hq'
      · rfl
      · exact absurd h (h1 q hq')
    · rcases List.mem_cons.1 hq with rfl | hq'
      · exact absurd h.symm (h1 p hp')
      · exact ih h2 hp' hq'
theorem cur_del (hA : l.Pairwise fun p q => p.1 ≠ q.1) {p : (Int × Int) × Opn} (hp : p ∈ l) (hd : dn p.1 = false) (hg : gone p.2 = true) : delL (cur T gone dn l) p.1 = cur T gone (step dn p.1) l := by
  unfold delL cur
  rw [List.filter_filterMap]
  apply filterMap_congr'
  intro q hq
  by_cases e : q.1 = p.1
  · obtain rfl := same_key hA hq hp e
    rw [curF_self]
    simp [curF, hd, stayT, hg, Option.filter]
  · rw [curF_other e]
    cases hc : curF T gone dn q with
    | none => rfl
    | some q' =>
      have := (curF_key hc).1
      simp [Option.filter, this, e]
theorem cur_turn (hT : ∀ x, (T x).o = x.o ∧ (T x).r = x.r) (hA : l.Pairwise fun p q => p.1 ≠ q.1) {p : (Int × Int) × Opn} (hp : p ∈ l) (hd : dn p.1 = false) (hg : gone p.2 = false) :
    (cur T gone dn l).map (fun q => (slotM.key q.1, slotM.val q.2)) = (cur T gone (step dn p.1) l).map fun q => (slotM.key q.1, slotM.val q.2) := by
  unfold cur
  rw [List.map_filterMap, List.map_filterMap]
  apply filterMap_congr'
  intro q hq
  by_cases e : q.1 = p.1
  · obtain rfl := same_key hA hq hp e
    rw [curF_self]
    simp [curF, hd, stayT, hg, slotM, (hT q.2).1]
  · rw [curF_other e]
theorem cur_end (h : ∀ p ∈ cur T gone dn l, dn p.1 = true) : cur T gone dn l = l.filterMap (stayT T gone) := by
  unfold cur at h ⊢
  apply filterMap_congr'
  intro q hq
  cases hd : dn q.1 with
  | true => simp [curF, hd]
  | false =>
    have := h q (List.mem_filterMap.2 ⟨q, hq, by simp [curF, hd]⟩)
    rw [hd] at this
    cases this
theorem cur_new {p q : (Int × Int) × Opn} (hA : l.Pairwise fun p q => p.1 ≠ q.1) (hp : p ∈ l) (hq : q ∈ cur T gone (step dn p.1) l) : (q.1 = p.1 ∧ gone p.2 = false ∧ q = (p.1, T p.2)) ∨ (q.1 ≠ p.1 ∧ q ∈ cur T gone dn l) := by
  obtain ⟨q0, hq0, e⟩ := List.mem_filterMap.1 hq
  have hk := (curF_key e).1
  by_cases e1 : q0.1 = p.1
  · obtain rfl := same_key hA hq0 hp e1
    have h3 := (curF_key e).2.2 (by simp [step])
    exact Or.inl ⟨hk, h3.1, h3.2⟩
  · rw [curF_other e1] at e
    exact Or.inr ⟨by rw [hk]; exact e1, List.mem_filterMap.2 ⟨q0, hq0, e⟩⟩
theorem left_less (s : Int × Int) : ∀ (l : Gaps), (l.filter fun p => !step dn s p.1).length ≤ (l.filter fun p => !dn p.1).length
  | [] => Nat.le_refl _
  | a :: r => by
    have ih := left_less s r
    generalize hF : (fun p : (Int × Int) × Opn => !step dn s p.1) = F at ih ⊢
    have hFa : F a = !step dn s a.1 := by rw [← hF]
    simp only [List.filter_cons, hFa, step]
    cases h1 : dn a.1 <;> cases h2 : decide (a.1 = s) <;> simp <;> omega
theorem left_drops {p : (Int × Int) × Opn} (hd : dn p.1 = false) : ∀ (l : Gaps), p ∈ l → (l.filter fun q => !step dn p.1 q.1).length < (l.filter fun q => !dn q.1).length
  | [], h => by simp at h
  | a :: r, h => by
    have hle := left_less (dn := dn) p.1 r
    have ih := left_drops hd r
    generalize hF : (fun q : (Int × Int) × Opn => !step dn p.1 q.1) = F at ih hle ⊢
    have hFa : F a = !step dn p.1 a.1 := by rw [← hF]
    rcases List.mem_cons.1 h with rfl | h
    · simp only [List.filter_cons, hFa, step, hd]
      simp
      omega
    · have ih := ih h
      simp only [List.filter_cons, hFa, step]
      cases h1 : dn a.1 <;> cases h2 : decide (a.1 = p.1) <;> simp <;> omega
theorem left_del (s : Int × Int) (l : Gaps) : ((delL l s).filter fun p => !dn p.1).length ≤ (l.filter fun p => !dn p.1).length :=
  ((List.filter_sublist (l := l)).filter _).length_le
theorem Rg.turn {w : World} {b r : Nat} {l' : Gaps} (h : Rg slotM w b r l dn) (e : l.map (fun q => (slotM.key q.1, slotM.val q.2)) = l'.map fun q => (slotM.key q.1, slotM.val q.2)) : Rg slotM w b r l' dn := by
  obtain ⟨es, clock, since, seen, c0, hb, hs, he, hok, rest⟩ := h
  refine ⟨es, clock, since, seen, c0, hb, hs, Eq.trans he e, fun p hp => ?_, rest⟩
  have : (slotM.key p.1, slotM.val p.2) ∈ l'.map fun q => (slotM.key q.1, slotM.val q.2) := List.mem_map.2 ⟨p, hp, rfl⟩
  rw [← e] at this
  obtain ⟨q, hq, e1⟩ := List.mem_map.1 this
  rw [← slotM.inj (congrArg Prod.fst e1)]
  exact hok q hq
end
end Go.Proofs.Ytjijgpdfoilijaa
