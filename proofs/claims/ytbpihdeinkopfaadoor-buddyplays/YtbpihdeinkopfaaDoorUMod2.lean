/- The document's store: Set, Free, Take. -/
import Derived.Test.YtbpihdeinkopfaaDoorUMod
import Derived.Test.YtbpihdeinkopfaaDoorULeast
namespace Go.Proofs.YtbpihdeinkopfaaDoor
open Go.RowKit

/-- The k frames from a on are f. -/
def setK (M : List Bool) (a k : Nat) (f : Bool) : List Bool := (List.range M.length).map fun x => if a ≤ x ∧ x < a + k then f else M.getD x false
theorem setK_len (M : List Bool) (a k : Nat) (f : Bool) : (setK M a k f).length = M.length := by simp [setK]
theorem setK_get (M : List Bool) (a k : Nat) (f : Bool) (x : Nat) : (setK M a k f).getD x false = if x < M.length then (if a ≤ x ∧ x < a + k then f else M.getD x false) else false := by
  rw [List.getD_eq_getElem?_getD]
  unfold setK
  rw [List.getElem?_map]
  by_cases h : x < M.length
  · rw [List.getElem?_range h, if_pos h]
    rfl
  · rw [List.getElem?_eq_none (by simp; omega), if_neg h]
    rfl
theorem setK_zero (M : List Bool) (a : Nat) (f : Bool) : setK M a 0 f = M := by
  apply List.ext_getElem?
  intro x
  unfold setK
  rw [List.getElem?_map]
  by_cases h : x < M.length
  · rw [List.getElem?_range h, Option.map_some, if_neg (by omega), List.getD_eq_getElem?_getD, List.getElem?_eq_getElem h]
    rfl
  · rw [List.getElem?_eq_none (by simp; omega), List.getElem?_eq_none (by omega)]
    rfl
theorem setK_succ (M : List Bool) (a k : Nat) (f : Bool) (_h : a + k < M.length) : setK M a (k + 1) f = (setK M a k f).set (a + k) f := by
  apply List.ext_getElem?
  intro x
  unfold setK
  by_cases hx : x < M.length
  · by_cases hxa : a + k = x
    · subst hxa
      rw [List.getElem?_set_self (by simp; omega), List.getElem?_map, List.getElem?_range hx, Option.map_some, if_pos (by omega)]
    · rw [List.getElem?_set_ne hxa, List.getElem?_map, List.getElem?_map, List.getElem?_range hx, Option.map_some, Option.map_some]
      congr 1
      by_cases h1 : a ≤ x ∧ x < a + k
      · rw [if_pos h1, if_pos (by omega)]
      · rw [if_neg h1, if_neg (by omega)]
  · rw [List.getElem?_eq_none (by simp; omega), List.getElem?_eq_none (by simp; omega)]

/-- What Set leaves. -/
def SetP (B : Nat) (w : World) (v : Value) (M : List Bool) (e : Ending) (w' : World) : Prop := e = .returned (.tuple #[]) ∧ Row rO B w' v M ∧ Keeps w w' (fun b => v.ownBlock = some b)
set_option maxHeartbeats 2000000 in
theorem refSet_any {B : Nat} {w : World} {v : Value} {M : List Bool} (hr : Row rO B w v M) (hn : M.length ≤ 512) (b : Bk) (h5 : b.2 ≤ 5) (hb : bend b ≤ M.length) (f : Bool) :
    Calls Tryd.prog 18 #[v, .int .i64 b.1, .int .i64 b.2, .bool f] w (SetP B w v (setK M b.1 (2 ^ b.2) f)) := by
  have hP := fun w => power_any b.2 w (by omega)
  have hpp := pw_pos b.2
  have HP : Hid (pw b.2 = ((2 ^ b.2 : Nat) : Int)) := rfl
  have hbe : b.1 + 2 ^ b.2 ≤ M.length := hb
  have h2p := Nat.two_pow_pos b.2
  obtain ⟨ao, c, rfl⟩ := hr.form
  obtain ⟨g, rfl, -, -, hg, -, -, -⟩ := hr.at (show b.1 < M.length by omega)
  have HR : Hid (Row rO B w (.slice (some ⟨g, 0, none⟩) M.length c) M) := hr
  clear hr hg
  go_enter Tryd.func18, Tryd.ntmps18
  go_wp2
  go_loopw [8] (fun iv W => ∃ j : Nat, j ≤ 2 ^ b.2 ∧ iv = .int .i64 j ∧ Hid (Row rO B W (.slice (some ⟨g, 0, none⟩) M.length c) (setK M b.1 j f)) ∧ Hid (Keeps w W (fun b => b = g))) (fun iv _ => 2 ^ b.2 - (intOf iv).toNat)
  case atStart => exact ⟨0, Nat.zero_le _, rfl, (by rw [setK_zero]; exact HR.out : Row rO B w (.slice (some ⟨g, 0, none⟩) M.length c) (setK M b.1 0 f)), Keeps.refl _ _⟩
  case round =>
    obtain ⟨j, hj, rfl, HI, HK⟩ := hrel
    by_cases hjl : j < 2 ^ b.2
    · have hjz : (j : Int) < pw b.2 := by have := HP.out; omega
      have hlt : b.1 + j < M.length := by omega
      have hltz : (b.1 : Int) + (j : Int) < (M.length : Int) := by omega
      have hsl := setK_len M b.1 j f
      obtain ⟨g', e', -, -, hg', -, -, hat⟩ := HI.out.at (show b.1 + j < (setK M b.1 j f).length by omega)
      cases e'
      have c0 := rO.at hat
      simp only [show rO.n = 1 from rfl, Nat.mul_one] at c0
      have hfz := HI.out.frozen (b.1 + j)
      have htn : ((b.1 : Int) + (j : Int)).toNat = b.1 + j := by omega
      have h0 : (0 : Int) ≤ (b.1 : Int) + (j : Int) := by omega
      have HN : Hid (Row rO B (wr.setCell ⟨g, b.1 + j, none⟩ (.bool f)) (.slice (some ⟨g, 0, none⟩) M.length c) (setK M b.1 (j + 1) f)) := by
        rw [setK_succ M b.1 j f hlt]
        have := HI.out.put1 (b.1 + j) 0 (.bool f) f (by omega) (by decide) rfl
        simp only [show rO.n = 1 from rfl, Nat.mul_one, Nat.add_zero] at this
        exact this
      have HK2 : Hid (Keeps w (wr.setCell ⟨g, b.1 + j, none⟩ (.bool f)) (fun b => b = g)) := HK.out.trans (Keeps.set _ _ _ _) fun _ _ h => h
      clear hat HI HK hsl
      go_wp2_with (go_at_call 22; refine (hP _).mono ?_; rintro e w5 ⟨rfl, hw⟩; obtain rfl := hw.symm; clear hw)
      go_roundw
      case rel => exact ⟨j + 1, by omega, by go_num, HN, HK2⟩
      case measure => simp only [intOf]; omega
    · have hjz : ¬ (j : Int) < pw b.2 := by have := HP.out; omega
      have hje : j = 2 ^ b.2 := by omega
      have HI2 : Hid (Row rO B wr (.slice (some ⟨g, 0, none⟩) M.length c) (setK M b.1 (2 ^ b.2) f)) := by rw [← hje]; exact HI.out
      clear hje HI
      go_wp2_with (go_at_call 22; refine (hP _).mono ?_; rintro e w5 ⟨rfl, hw⟩; obtain rfl := hw.symm; clear hw)
      go_end0
      exact ⟨rfl, HI2.out, HK.out.mono fun b _ e => by rw [e]; rfl⟩

/-- The blocks of the frames below a. -/
structure FA (M : List Bool) (a : Nat) (A : List Bk) : Prop where
  le : a ≤ M.length
  al : ∀ b ∈ A, alB b ∧ bend b ≤ a
  sorted : A.Pairwise fun a b => bend a ≤ b.1
  cv : ∀ x, x < a → (cov A x ↔ M.getD x false = true)
  left : ∀ b ∈ A, b.2 < 5 → 2 ^ (b.2 + 1) ∣ b.1 → ∃ x, b.1 ≤ x ∧ x < b.1 + 2 ^ (b.2 + 1) ∧ M.getD x false = false
theorem FA.nil (M : List Bool) : FA M 0 [] := ⟨Nat.zero_le _, by simp, List.Pairwise.nil, fun x h => by omega, by simp⟩
theorem FA.skip {M : List Bool} {a : Nat} {A : List Bk} (h : FA M a A) (ha : a < M.length) (hm : M.getD a false = false) : FA M (a + 1) A := by
  refine ⟨ha, fun b hb => ⟨(h.al b hb).1, by have := (h.al b hb).2; omega⟩, h.sorted, fun x hx => ?_, h.left⟩
  rcases Nat.lt_or_ge x a with c | c
  · exact h.cv x c
  · obtain rfl : x = a := by omega
    rw [hm]
    refine ⟨?_, fun e => by cases e⟩
    rintro ⟨b, hb, h1, h2⟩
    have := (h.al b hb).2
    omega
theorem FA.add {M : List Bool} {a o : Nat} {A : List Bk} (h : FA M a A) (hb : alB (a, o)) (he : bend (a, o) ≤ M.length) (hall : allM M (a, o) true) (hl : o < 5 → 2 ^ (o + 1) ∣ a → ∃ x, a ≤ x ∧ x < a + 2 ^ (o + 1) ∧ M.getD x false = false) : FA M (a + 2 ^ o) (A ++ [(a, o)]) := by
  refine ⟨he, fun b hb' => ?_, ?_, fun x hx => ?_, fun b hb' => ?_⟩
  · rcases List.mem_append.1 hb' with h1 | h1
    · have := h.al b h1
      exact ⟨this.1, Nat.le_trans this.2 (Nat.le_add_right _ _)⟩
    · obtain rfl := List.mem_singleton.1 h1
      exact ⟨hb, Nat.le_refl _⟩
  · rw [List.pairwise_append]
    refine ⟨h.sorted, List.pairwise_singleton _ _, fun c hc d hd => ?_⟩
    obtain rfl := List.mem_singleton.1 hd
    exact (h.al c hc).2
  · rw [cov_append]
    rcases Nat.lt_or_ge x a with c | c
    · rw [h.cv x c]
      refine ⟨fun h1 => h1.elim id ?_, Or.inl⟩
      rintro ⟨d, hd, h1, h2⟩
      obtain rfl := List.mem_singleton.1 hd
      have : a ≤ x := h1
      omega
    · have hin : inB (a, o) x := ⟨c, hx⟩
      rw [hall x hin]
      exact ⟨fun _ => rfl, fun _ => Or.inr ⟨_, List.mem_singleton.2 rfl, hin⟩⟩
  · rcases List.mem_append.1 hb' with h1 | h1
    · exact h.left b h1
    · obtain rfl := List.mem_singleton.1 h1
      exact hl
theorem getD_ge {M : List Bool} {x : Nat} (h : M.length ≤ x) : M.getD x false = false := by rw [List.getD_eq_getElem?_getD, List.getElem?_eq_none h]; rfl
theorem FA.done {M : List Bool} {A L : List Bk} {n : Nat} (h : FA M M.length A) (ho : Okl n L) (hc : ∀ x, covB L x = M.getD x false) : A = L := by
  have hcv : ∀ x, cov A x ↔ M.getD x false = true := fun x => by
    rcases Nat.lt_or_ge x M.length with c | c
    · exact h.cv x c
    · rw [getD_ge c]
      refine ⟨?_, fun e => by cases e⟩
      rintro ⟨b, hb, h1, h2⟩
      have := (h.al b hb).2
      omega
  have hg : Good A := ⟨fun b hb => (h.al b hb).1, h.sorted, fun b hb h5 hd => by
    obtain ⟨x, x1, x2, x3⟩ := h.left b hb h5 hd
    exact ⟨x, x1, x2, fun e => by rw [(hcv x).1 e] at x3; cases x3⟩⟩
  exact hg.unique ho.good fun x => by rw [hcv x, ← hc x, covB_iff]
theorem FA.len {M : List Bool} {a : Nat} {A : List Bk} (h : FA M a A) : A.length ≤ M.length := by
  have := sorted_len A 0 a h.sorted fun b hb => ⟨Nat.zero_le _, (h.al b hb).2⟩
  have := h.le
  omega
end Go.Proofs.YtbpihdeinkopfaaDoor
