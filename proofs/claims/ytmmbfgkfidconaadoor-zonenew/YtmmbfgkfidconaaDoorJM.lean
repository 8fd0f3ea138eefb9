/- Own texts, joined: UMod2, YMod, YModN, UMod3, UMod4, YModR, YModB. -/
import Derived.Test.YtmmbfgkfidconaaDoorJC
import Derived.Test.YtmmbfgkfidconaaDoorJE
import Derived.Test.YtmmbfgkfidconaaDoorJD
/- The document's store: Set, Free, Take. -/
namespace Go.Proofs.YtmmbfgkfidconaaDoor
open Go.RowKit

/-- The k frames from a on are f. -/
def setK (M : List Bool) (a k : Nat) (f : Bool) : List Bool := (List.range M.length).map fun x => if a ≤ x ∧ x < a + k then f else M.getD x false
theorem setK_len (M : List Bool) (a k : Nat) (f : Bool) : (setK M a k f).length = M.length := by simp [setK]
theorem setK_get (M : List Bool) (a k : Nat) (f : Bool) (x : Nat) : (setK M a k f).getD x false = if x < M.length then (if a ≤ x ∧ x < a + k then f else M.getD x false) else false := by
  rw [List.getD_eq_getElem?_getD]
  unfold setK
  rw [List.getElem?_map]
  by_cases h : x < M.length
  · rw [List.getElem?_range h, if_pos h]
    rfl
  · rw [List.getElem?_eq_none (by simp; omega), if_neg h]
    rfl
theorem setK_zero (M : List Bool) (a : Nat) (f : Bool) : setK M a 0 f = M := by
  apply List.ext_getElem?
  intro x
  unfold setK
  rw [List.getElem?_map]
  by_cases h : x < M.length
  · rw [List.getElem?_range h, Option.map_some, if_neg (by omega), List.getD_eq_getElem?_getD, List.getElem?_eq_getElem h]
    rfl
  · rw [List.getElem?_eq_none (by simp; omega), List.getElem?_eq_none (by omega)]
    rfl
theorem setK_succ (M : List Bool) (a k : Nat) (f : Bool) (_h : a + k < M.length) : setK M a (k + 1) f = (setK M a k f).set (a + k) f := by
  apply List.ext_getElem?
  intro x
  unfold setK
  by_cases hx : x < M.length
  · by_cases hxa : a + k = x
    · subst hxa
      rw [List.getElem?_set_self (by simp; omega), List.getElem?_map, List.getElem?_range hx, Option.map_some, if_pos (by omega)]
    · rw [List.getElem?_set_ne hxa, List.getElem?_map, List.getElem?_map, List.getElem?_range hx, Option.map_some, Option.map_some]
      congr 1
      by_cases h1 : a ≤ x ∧ x < a + k
      · rw [if_pos h1, if_pos (by omega)]
      · rw [if_neg h1, if_neg (by omega)]
  · rw [List.getElem?_eq_none (by simp; omega), List.getElem?_eq_none (by simp; omega)]

/-- What Set leaves. -/
def SetP (B : Nat) (w : World) (v : Value) (M : List Bool) (e : Ending) (w' : World) : Prop := e = .returned (.tuple #[]) ∧ Row rO B w' v M ∧ Keeps w w' (fun b => v.ownBlock = some b)
set_option maxHeartbeats 2000000 in
theorem refSet_any {B : Nat} {w : World} {v : Value} {M : List Bool} (hr : Row rO B w v M) (hn : M.length ≤ 512) (b : Bk) (h5 : b.2 ≤ 5) (hb : bend b ≤ M.length) (f : Bool) :
    Calls Tryd.prog 18 #[v, .int .i64 b.1, .int .i64 b.2, .bool f] w (SetP B w v (setK M b.1 (2 ^ b.2) f)) := by
  have hP := fun w => power_any b.2 w (by omega)
  have hpp := pw_pos b.2
  have HP : Hid (pw b.2 = ((2 ^ b.2 : Nat) : Int)) := rfl
  have hbe : b.1 + 2 ^ b.2 ≤ M.length := hb
  have h2p := Nat.two_pow_pos b.2
  obtain ⟨ao, c, rfl⟩ := hr.form
  obtain ⟨g, rfl, -, -, hg, -, -, -⟩ := hr.at (show b.1 < M.length by omega)
  have HR : Hid (Row rO B w (.slice (some ⟨g, 0, none⟩) M.length c) M) := hr
  clear hr hg
  go_enter Tryd.func18, Tryd.ntmps18
  go_wp2
  go_loopw [8] (fun iv W => ∃ j : Nat, j ≤ 2 ^ b.2 ∧ iv = .int .i64 j ∧ Hid (Row rO B W (.slice (some ⟨g, 0, none⟩) M.length c) (setK M b.1 j f)) ∧ Hid (Keeps w W (fun b => b = g))) (fun iv _ => 2 ^ b.2 - (intOf iv).toNat)
  case atStart => exact ⟨0, Nat.zero_le _, rfl, (by rw [setK_zero]; exact HR.out : Row rO B w (.slice (some ⟨g, 0, none⟩) M.length c) (setK M b.1 0 f)), Keeps.refl _ _⟩
  case round =>
    obtain ⟨j, hj, rfl, HI, HK⟩ := hrel
    by_cases hjl : j < 2 ^ b.2
    · have hjz : (j : Int) < pw b.2 := by have := HP.out; omega
      have hlt : b.1 + j < M.length := by omega
      have hltz : (b.1 : Int) + (j : Int) < (M.length : Int) := by omega
      have hsl := setK_len M b.1 j f
      obtain ⟨g', e', -, -, hg', -, -, hat⟩ := HI.out.at (show b.1 + j < (setK M b.1 j f).length by omega)
      cases e'
      have c0 := rO.at hat
      simp only [show rO.n = 1 from rfl, Nat.mul_one] at c0
      have hfz := HI.out.frozen (b.1 + j)
      have htn : ((b.1 : Int) + (j : Int)).toNat = b.1 + j := by omega
      have h0 : (0 : Int) ≤ (b.1 : Int) + (j : Int) := by omega
      have HN : Hid (Row rO B (wr.setCell ⟨g, b.1 + j, none⟩ (.bool f)) (.slice (some ⟨g, 0, none⟩) M.length c) (setK M b.1 (j + 1) f)) := by
        rw [setK_succ M b.1 j f hlt]
        have := HI.out.put1 (b.1 + j) 0 (.bool f) f (by omega) (by decide) rfl
        simp only [show rO.n = 1 from rfl, Nat.mul_one, Nat.add_zero] at this
        exact this
      have HK2 : Hid (Keeps w (wr.setCell ⟨g, b.1 + j, none⟩ (.bool f)) (fun b => b = g)) := HK.out.trans (Keeps.set _ _ _ _) fun _ _ h => h
      clear hat HI HK hsl
      go_wp2_with (go_at_call 32; refine (hP _).mono ?_; rintro e w5 ⟨rfl, hw⟩; obtain rfl := hw.symm; clear hw)
      go_roundw
      case rel => exact ⟨j + 1, by omega, by go_num, HN, HK2⟩
      case measure => simp only [intOf]; omega
    · have hjz : ¬ (j : Int) < pw b.2 := by have := HP.out; omega
      have hje : j = 2 ^ b.2 := by omega
      have HI2 : Hid (Row rO B wr (.slice (some ⟨g, 0, none⟩) M.length c) (setK M b.1 (2 ^ b.2) f)) := by rw [← hje]; exact HI.out
      clear hje HI
      go_wp2_with (go_at_call 32; refine (hP _).mono ?_; rintro e w5 ⟨rfl, hw⟩; obtain rfl := hw.symm; clear hw)
      go_end0
      exact ⟨rfl, HI2.out, HK.out.mono fun b _ e => by rw [e]; rfl⟩

/-- The blocks of the frames below a. -/
structure FA (M : List Bool) (a : Nat) (A : List Bk) : Prop where
  le : a ≤ M.length
  al : ∀ b ∈ A, alB b ∧ bend b ≤ a
  sorted : A.Pairwise fun a b => bend a ≤ b.1
  cv : ∀ x, x < a → (cov A x ↔ M.getD x false = true)
  left : ∀ b ∈ A, b.2 < 5 → 2 ^ (b.2 + 1) ∣ b.1 → ∃ x, b.1 ≤ x ∧ x < b.1 + 2 ^ (b.2 + 1) ∧ M.getD x false = false
theorem FA.nil (M : List Bool) : FA M 0 [] := ⟨Nat.zero_le _, by simp, List.Pairwise.nil, fun x h => by omega, by simp⟩
theorem FA.skip {M : List Bool} {a : Nat} {A : List Bk} (h : FA M a A) (ha : a < M.length) (hm : M.getD a false = false) : FA M (a + 1) A := by
  refine ⟨ha, fun b hb => ⟨(h.al b hb).1, by have := (h.al b hb).2; omega⟩, h.sorted, fun x hx => ?_, h.left⟩
  rcases Nat.lt_or_ge x a with c | c
  · exact h.cv x c
  · obtain rfl : x = a := by omega
    rw [hm]
    refine ⟨?_, fun e => by cases e⟩
    rintro ⟨b, hb, h1, h2⟩
    have := (h.al b hb).2
    omega
theorem FA.add {M : List Bool} {a o : Nat} {A : List Bk} (h : FA M a A) (hb : alB (a, o)) (he : bend (a, o) ≤ M.length) (hall : allM M (a, o) true) (hl : o < 5 → 2 ^ (o + 1) ∣ a → ∃ x, a ≤ x ∧ x < a + 2 ^ (o + 1) ∧ M.getD x false = false) : FA M (a + 2 ^ o) (A ++ [(a, o)]) := by
  refine ⟨he, fun b hb' => ?_, ?_, fun x hx => ?_, fun b hb' => ?_⟩
  · rcases List.mem_append.1 hb' with h1 | h1
    · have := h.al b h1
      exact ⟨this.1, Nat.le_trans this.2 (Nat.le_add_right _ _)⟩
    · obtain rfl := List.mem_singleton.1 h1
      exact ⟨hb, Nat.le_refl _⟩
  · rw [List.pairwise_append]
    refine ⟨h.sorted, List.pairwise_singleton _ _, fun c hc d hd => ?_⟩
    obtain rfl := List.mem_singleton.1 hd
    exact (h.al c hc).2
  · rw [cov_append]
    rcases Nat.lt_or_ge x a with c | c
    · rw [h.cv x c]
      refine ⟨fun h1 => h1.elim id ?_, Or.inl⟩
      rintro ⟨d, hd, h1, h2⟩
      obtain rfl := List.mem_singleton.1 hd
      have : a ≤ x := h1
      omega
    · have hin : inB (a, o) x := ⟨c, hx⟩
      rw [hall x hin]
      exact ⟨fun _ => rfl, fun _ => Or.inr ⟨_, List.mem_singleton.2 rfl, hin⟩⟩
  · rcases List.mem_append.1 hb' with h1 | h1
    · exact h.left b h1
    · obtain rfl := List.mem_singleton.1 h1
      exact hl
theorem getD_ge {M : List Bool} {x : Nat} (h : M.length ≤ x) : M.getD x false = false := by rw [List.getD_eq_getElem?_getD, List.getElem?_eq_none h]; rfl
theorem FA.done {M : List Bool} {A L : List Bk} {n : Nat} (h : FA M M.length A) (ho : Okl n L) (hc : ∀ x, covB L x = M.getD x false) : A = L := by
  have hcv : ∀ x, cov A x ↔ M.getD x false = true := fun x => by
    rcases Nat.lt_or_ge x M.length with c | c
    · exact h.cv x c
    · rw [getD_ge c]
      refine ⟨?_, fun e => by cases e⟩
      rintro ⟨b, hb, h1, h2⟩
      have := (h.al b hb).2
      omega
  have hg : Good A := ⟨fun b hb => (h.al b hb).1, h.sorted, fun b hb h5 hd => by
    obtain ⟨x, x1, x2, x3⟩ := h.left b hb h5 hd
    exact ⟨x, x1, x2, fun e => by rw [(hcv x).1 e] at x3; cases x3⟩⟩
  exact hg.unique ho.good fun x => by rw [hcv x, ← hc x, covB_iff]
theorem FA.len {M : List Bool} {a : Nat} {A : List Bk} (h : FA M a A) : A.length ≤ M.length := by
  have := sorted_len A 0 a h.sorted fun b hb => ⟨Nat.zero_le _, (h.al b hb).2⟩
  have := h.le
  omega
end Go.Proofs.YtmmbfgkfidconaaDoor
/- The document's zone: as it lies; New. -/
namespace Go.Proofs.YtmmbfgkfidconaaDoor
open Go.RowKit

/-- The document's zone at block m: its frames at s, its sorts at t, which are closed at k. -/
structure MB (B : Nat) (w : World) (m s t k cs ct ck : Nat) (M : List Bool) (gs : List Gp) : Prop where
  laid : Laid w m 41 #[.slice (some ⟨s, 0, none⟩) M.length cs, .slice (some ⟨t, 0, none⟩) gs.length ct, .slice (some ⟨k, 0, none⟩) gs.length ck]
  rs : Row rO B w (.slice (some ⟨s, 0, none⟩) M.length cs) M
  rt : Row rI B w (.slice (some ⟨t, 0, none⟩) gs.length ct) (gs.map (·.1))
  rk : Row rO B w (.slice (some ⟨k, 0, none⟩) gs.length ck) (gs.map (·.2))
  lo : B ≤ m
  ne : s ≠ k
/-- Its blocks. -/
def mf (m s t k : Nat) (b : Nat) : Prop := b = m ∨ b = s ∨ b = t ∨ b = k
section
variable {B : Nat} {w w' : World} {m s t k cs ct ck : Nat} {M : List Bool} {gs : List Gp}
theorem MB.keeps {S : Nat → Prop} (h : MB B w m s t k cs ct ck M gs) (hk : Keeps w w' S) (hs : ∀ b, mf m s t k b → ¬ S b) : MB B w' m s t k cs ct ck M gs :=
  ⟨(hk.block m h.laid.lt (hs m (Or.inl rfl))).trans h.laid, hk.row h.rs fun g hg => hs g (Or.inr (Or.inl (by simpa [Value.ownBlock] using hg.symm))), hk.row h.rt fun g hg => hs g (Or.inr (Or.inr (Or.inl (by simpa [Value.ownBlock] using hg.symm)))), hk.row h.rk fun g hg => hs g (Or.inr (Or.inr (Or.inr (by simpa [Value.ownBlock] using hg.symm)))), h.lo, h.ne⟩
theorem MB.below (h : MB B w m s t k cs ct ck M gs) (hb : Below w.heap.size w w') : MB B w' m s t k cs ct ck M gs := h.keeps (Keeps.of_below hb (fun _ => False)) fun _ _ e => e
theorem MB.lt (h : MB B w m s t k cs ct ck M gs) : ∀ b, mf m s t k b → B ≤ b ∧ b < w.heap.size := by
  rintro b (rfl | rfl | rfl | rfl)
  · exact ⟨h.lo, h.laid.lt⟩
  · exact h.rs.lt _ rfl
  · exact h.rt.lt _ rfl
  · exact h.rk.lt _ rfl
theorem MB.nes (h : MB B w m s t k cs ct ck M gs) : m ≠ s ∧ m ≠ t ∧ m ≠ k ∧ s ≠ t ∧ t ≠ k ∧ s ≠ k := by
  obtain ⟨c1, h1⟩ := h.rs.tag (g := s) rfl
  obtain ⟨c2, h2⟩ := h.rt.tag (g := t) rfl
  obtain ⟨c3, h3⟩ := h.rk.tag (g := k) rfl
  exact ⟨ne_of_tag h.laid h1 (by decide), ne_of_tag h.laid h2 (by decide), ne_of_tag h.laid h3 (by decide), ne_of_tag h1 h2 (by decide), ne_of_tag h2 h3 (by decide), h.ne⟩
theorem MB.cells (h : MB B w m s t k cs ct ck M gs) : w.cell? ⟨m, 0, none⟩ = some (.slice (some ⟨s, 0, none⟩) M.length cs) ∧ w.cell? ⟨m, 1, none⟩ = some (.slice (some ⟨t, 0, none⟩) gs.length ct) ∧ w.cell? ⟨m, 2, none⟩ = some (.slice (some ⟨k, 0, none⟩) gs.length ck) := ⟨h.laid.cell 0, h.laid.cell 1, h.laid.cell 2⟩
theorem map_getD {α β : Type} (f : α → β) (l : List α) (x : α) (y : β) (i : Nat) (hi : i < l.length) : (l.map f).getD i y = f (l.getD i x) := by
  rw [List.getD_eq_getElem?_getD, List.getD_eq_getElem?_getD, List.getElem?_map, List.getElem?_eq_getElem hi]
  rfl
theorem MB.grp (h : MB B w m s t k cs ct ck M gs) {i : Nat} (hi : i < gs.length) : w.cell? ⟨t, i, none⟩ = some (.int .i64 (gs.getD i (0, false)).1) ∧ w.cell? ⟨k, i, none⟩ = some (.bool (gs.getD i (0, false)).2) ∧ (∀ j, w.frozen? ⟨t, j, none⟩ = false) ∧ ∀ j, w.frozen? ⟨k, j, none⟩ = false := by
  obtain ⟨g', e, _, _, _, _, _, hat⟩ := h.rt.at (show i < (gs.map (·.1)).length by simpa using hi)
  cases e
  obtain ⟨g', e, _, _, _, _, _, hak⟩ := h.rk.at (show i < (gs.map (·.2)).length by simpa using hi)
  cases e
  have h1 := rI.at hat
  have h2 := rO.at hak
  simp only [show rI.n = 1 from rfl, show rO.n = 1 from rfl, Nat.mul_one, show rI.zero = 0 from rfl, show rO.zero = false from rfl] at h1 h2
  rw [map_getD (·.1) gs (0, false) 0 i hi] at h1
  rw [map_getD (·.2) gs (0, false) false i hi] at h2
  exact ⟨h1, h2, h.rt.frozen, h.rk.frozen⟩
theorem map_set {α β : Type} (f : α → β) (l : List α) (i : Nat) (x : α) : (l.set i x).map f = (l.map f).set i (f x) := by
  apply List.ext_getElem?
  intro j
  rw [List.getElem?_map]
  by_cases h : i = j
  · subst h
    by_cases hl : i < l.length
    · rw [List.getElem?_set_self hl, List.getElem?_set_self (by simpa using hl)]; rfl
    · rw [List.getElem?_eq_none (by simp; omega), List.getElem?_eq_none (by simp; omega)]; rfl
  · rw [List.getElem?_set_ne h, List.getElem?_set_ne h, List.getElem?_map]
theorem set_same {α : Type} (l : List α) (i : Nat) (x : α) (h : l[i]? = some x) : l.set i x = l := by
  apply List.ext_getElem?
  intro j
  by_cases hj : i = j
  · subst hj
    rw [List.getElem?_set_self (List.getElem?_eq_some_iff.1 h).1, h]
  · rw [List.getElem?_set_ne hj]
/-- A group's sort is stored. -/
theorem MB.setT (h : MB B w m s t k cs ct ck M gs) (i : Nat) (x : Int) (hi : i < gs.length) : MB B (w.setCell ⟨t, i, none⟩ (.int .i64 x)) m s t k cs ct ck M (gs.set i (x, (gs.getD i (0, false)).2)) := by
  obtain ⟨n1, n2, n3, n4, n5, n6⟩ := h.nes
  have kk := Keeps.set w t i (.int .i64 x)
  have hr := h.rt.put1 i 0 (.int .i64 x) x (by simpa using hi) (by decide) rfl
  simp only [show rI.n = 1 from rfl, Nat.mul_one, Nat.add_zero] at hr
  refine ⟨?_, kk.row h.rs fun g hg e => ?_, ?_, ?_, h.lo, h.ne⟩
  · rw [List.length_set]
    exact (kk.block m h.laid.lt n2).trans h.laid
  · have : s = g := by simpa [Value.ownBlock] using hg
    exact n4 (this.trans e)
  · rw [List.length_set, map_set]
    exact hr
  · rw [List.length_set, map_set, set_same _ i _ (by rw [List.getElem?_map, List.getElem?_eq_getElem hi, List.getD_eq_getElem?_getD, List.getElem?_eq_getElem hi]; rfl)]
    refine kk.row h.rk fun g hg e => ?_
    have : k = g := by simpa [Value.ownBlock] using hg
    exact n5 (e.symm.trans this.symm)
/-- Whether it is closed is stored. -/
theorem MB.setK (h : MB B w m s t k cs ct ck M gs) (i : Nat) (x : Bool) (hi : i < gs.length) : MB B (w.setCell ⟨k, i, none⟩ (.bool x)) m s t k cs ct ck M (gs.set i ((gs.getD i (0, false)).1, x)) := by
  obtain ⟨n1, n2, n3, n4, n5, n6⟩ := h.nes
  have kk := Keeps.set w k i (.bool x)
  have hr := h.rk.put1 i 0 (.bool x) x (by simpa using hi) (by decide) rfl
  simp only [show rO.n = 1 from rfl, Nat.mul_one, Nat.add_zero] at hr
  refine ⟨?_, kk.row h.rs fun g hg e => ?_, ?_, ?_, h.lo, h.ne⟩
  · rw [List.length_set]
    exact (kk.block m h.laid.lt n3).trans h.laid
  · have : s = g := by simpa [Value.ownBlock] using hg
    exact n6 (this.trans e)
  · rw [List.length_set, map_set, set_same _ i _ (by rw [List.getElem?_map, List.getElem?_eq_getElem hi, List.getD_eq_getElem?_getD, List.getElem?_eq_getElem hi]; rfl)]
    refine kk.row h.rt fun g hg e => ?_
    have : t = g := by simpa [Value.ownBlock] using hg
    exact n5 (this.trans e)
  · rw [List.length_set, map_set]
    exact hr
/-- Its frames are turned. -/
theorem MB.setS {M' : List Bool} (h : MB B w m s t k cs ct ck M gs) (hr : Row rO B w' (.slice (some ⟨s, 0, none⟩) M.length cs) M') (hl : M'.length = M.length) (hk : Keeps w w' (fun b => b = s)) : MB B w' m s t k cs ct ck M' gs := by
  obtain ⟨n1, n2, n3, n4, n5, n6⟩ := h.nes
  refine ⟨?_, by rw [hl]; exact hr, hk.row h.rt fun g hg e => ?_, hk.row h.rk fun g hg e => ?_, h.lo, h.ne⟩
  · rw [hl]
    exact (hk.block m h.laid.lt n1).trans h.laid
  · have : t = g := by simpa [Value.ownBlock] using hg
    exact n4 (e.symm.trans this.symm)
  · have : k = g := by simpa [Value.ownBlock] using hg
    exact n6 (e.symm.trans this.symm)
end
end Go.Proofs.YtmmbfgkfidconaaDoor
/- The document's zone: New, walked. -/
namespace Go.Proofs.YtmmbfgkfidconaaDoor
open Go.RowKit

theorem Laid.set {w : World} {b : Nat} {t : TypeId} {cs : Array Value} (h : Laid w b t cs) (o : Nat) (v : Value) : Laid (w.setCell ⟨b, o, none⟩ v) b t (cs.setIfInBounds o v) := heap_setCell_same w b o cs t v h
/-- While it is made. -/
structure NI (w W : World) (m s cs n j i : Nat) (vT vK : Value) : Prop where
  laid : Laid W m 41 #[.slice (some ⟨s, 0, none⟩) n cs, vT, vK]
  rs : Row rO w.heap.size W (.slice (some ⟨s, 0, none⟩) n cs) (List.replicate n true)
  rt : Row rI m W vT (List.replicate j 1)
  rk : Row rO m W vK (List.replicate i false)
  below : Below w.heap.size w W
section
variable {w W W' : World} {m s cs n j i : Nat} {vT vK v : Value}
theorem NI.up (h : NI w W m s cs n j i vT vK) (hb : Below W.heap.size W W') : NI w W' m s cs n j i vT vK := ⟨h.laid.below hb, h.rs.below hb, h.rt.below hb, h.rk.below hb, below_call' h.below hb⟩
theorem not_own {α : Type} {R : Rec α} {B : Nat} {l : List α} {u : Value} {c : Array Value} (hl : Laid W m 41 c) (hr : Row R B W u l) (ht : 41 ≠ R.t) : ∀ g, u.ownBlock = some g → ¬ g = m := by
  rintro g hg rfl
  obtain ⟨cur, h1⟩ := hr.tag hg
  exact ne_of_tag hl h1 ht rfl
theorem NI.mkT (hl : Laid W m 41 #[.slice (some ⟨s, 0, none⟩) n cs, vT, vK]) (hs : Row rO w.heap.size W (.slice (some ⟨s, 0, none⟩) n cs) (List.replicate n true)) (ht : Row rI m W v (List.replicate j 1)) (hk : Row rO m W vK (List.replicate i false)) (hb : Below w.heap.size w W) (hm : w.heap.size ≤ m) : NI w (W.setCell ⟨m, 1, none⟩ v) m s cs n j i v vK := by
  have kk := Keeps.set W m 1 v
  exact ⟨hl.set 1 v, kk.row hs (not_own hl hs (by decide)), kk.row ht (not_own hl ht (by decide)), kk.row hk (not_own hl hk (by decide)), hb.trans (kk.below hb.size fun c _ e => by rw [e]; exact hm)⟩
theorem NI.mkK (hl : Laid W m 41 #[.slice (some ⟨s, 0, none⟩) n cs, vT, vK]) (hs : Row rO w.heap.size W (.slice (some ⟨s, 0, none⟩) n cs) (List.replicate n true)) (ht : Row rI m W vT (List.replicate j 1)) (hk : Row rO m W v (List.replicate i false)) (hb : Below w.heap.size w W) (hm : w.heap.size ≤ m) : NI w (W.setCell ⟨m, 2, none⟩ v) m s cs n j i vT v := by
  have kk := Keeps.set W m 2 v
  exact ⟨hl.set 2 v, kk.row hs (not_own hl hs (by decide)), kk.row ht (not_own hl ht (by decide)), kk.row hk (not_own hl hk (by decide)), hb.trans (kk.below hb.size fun c _ e => by rw [e]; exact hm)⟩
end
theorem rep_app {α : Type} (k : Nat) (x : α) : List.replicate k x ++ [x] = List.replicate (k + 1) x := by rw [List.replicate_succ']
/-- What New tells. -/
def NewM (w : World) (n : Nat) (e : Ending) (w' : World) : Prop := ∃ m s t k cs ct ck, e = .returned (.pointer (some ⟨m, 0, none⟩)) ∧ MB w.heap.size w' m s t k cs ct ck (List.replicate n true) (List.replicate ((n + 7) / 8) (1, false)) ∧ Below w.heap.size w w'
set_option maxRecDepth 100000 in
set_option maxHeartbeats 4000000 in
theorem refNewZ_any (n : Nat) (w : World) (h1 : 1 ≤ n) (h2 : n ≤ 512) :
    Calls Tryd.prog 11 #[.int .i64 n] w (NewM w n) := by
  have hR := refNew_any n w h2
  go_enter Tryd.func11, Tryd.ntmps11
  go_wp2_with fail
  refine hR.mono ?_
  rintro e w1 ⟨v, rfl, R1, hb1⟩
  clear hR
  rcases R1.cases with ⟨_, e0⟩ | ⟨s, cs, cur, rfl, hsB, hs1, _⟩
  · exfalso
    have := congrArg List.length e0
    rw [List.length_replicate, List.length_nil] at this
    omega
  rw [List.length_replicate] at R1 ⊢
  obtain ⟨m, hm⟩ : ∃ m, w1.heap.size = m := ⟨_, rfl⟩
  have H0 : Hid (NI w (w1.alloc (.cells #[.slice (some ⟨s, 0, none⟩) n cs, .slice none 0 0, .slice none 0 0] 41)) m s cs n 0 0 (.slice none 0 0) (.slice none 0 0)) := by
    have hb : Below w1.heap.size w1 (w1.alloc (.cells #[.slice (some ⟨s, 0, none⟩) n cs, .slice none 0 0, .slice none 0 0] 41)) := (Below.refl _ _).alloc (Nat.le_refl _) _
    rw [← hm]
    exact ⟨Laid.new _ _ _, R1.below hb, Row.nil _ _ _, Row.nil _ _ _, below_call' hb1 hb⟩
  have HS : Hid (s < m) := by rw [← hm]; exact hs1
  have HMB : Hid (w.heap.size ≤ m) := by rw [← hm]; exact hb1.size
  clear R1 hb1 hs1 hsB
  go_wp2_with fail
  clear hm
  go_loopw [4] (fun iv W => ∃ (j : Nat) (vT vK : Value), j * 8 ≤ n + 7 ∧ iv = .int .i64 ((j : Int) * 8) ∧ Hid (NI w W m s cs n j j vT vK)) (fun iv _ => n + 8 - (intOf iv).toNat)
  case atStart => exact ⟨0, _, _, by omega, rfl, H0⟩
  case round =>
    clear H0
    obtain ⟨j, vT, vK, hj, rfl, HI⟩ := hrel
    by_cases hlt : j * 8 < n
    · have hltz : (j : Int) * 8 < (n : Int) := by omega
      have c1 := HI.out.laid.cell 1
      have c2 := HI.out.laid.cell 2
      simp at c1 c2
      have hml := HI.out.laid.lt
      have HI1 : Hid (NI w (wr.alloc (.cells #[.int .i64 1] 3)) m s cs n j j vT vK) := HI.out.up ((Below.refl _ _).alloc (Nat.le_refl _) _)
      clear HI
      go_wp2_with (at_builtin; refine list_app rI.kin rfl _ _ rfl m _ (List.replicate j 1) [1] rfl HI1.out.rt (some ⟨wr.heap.size, 0, none⟩) 1 1 rfl rfl ?a2 ?a3 ?a4 ?a5 ?_)
      case a2 => exact Seen.one (by simp) (At.new (R := rI) _ 1 _ rfl) 1
      case a3 => simp only [List.length_replicate, List.length_cons, List.length_nil]; unfold maxLen; omega
      case a4 => simp only [List.length_replicate, List.length_cons, List.length_nil, show rI.bytes = 8 from rfl]; omega
      case a5 => simp; omega
      intro v2 w2 hr2 hg2
      rw [rep_app] at hr2
      obtain ⟨a2, k2s, rfl⟩ := hr2.form
      rw [List.length_replicate] at hr2 ⊢
      have hl2 : Laid w2 m 41 #[.slice (some ⟨s, 0, none⟩) n cs, vT, vK] := laid_grow HI1.out.laid HI1.out.rt (by decide) hg2
      have hb2 : Below wr.heap.size wr w2 → True := fun _ => trivial
      have c1' := hl2.cell 1
      have c2' := hl2.cell 2
      have f1 := hl2.frozen 1
      simp at c1' c2'
      have hm2 := hl2.lt
      have HT : Hid (∀ g, vT.ownBlock = some g → m ≤ g) := fun g hg => (HI1.out.rt.lt g hg).1
      have k2 : Keeps (wr.alloc (.cells #[.int .i64 1] 3)) w2 (fun b => vT.ownBlock = some b) := Keeps.of_grown hg2
      have HK2 : Hid (Row rO m w2 vK (List.replicate j false)) := k2.row HI1.out.rk fun g hg e => by
        obtain ⟨cur1, h1⟩ := HI1.out.rk.tag hg
        obtain ⟨cur2, h2⟩ := HI1.out.rt.tag e
        exact ne_of_tag h1 h2 (by decide) rfl
      have HS2 : Hid (Row rO w.heap.size w2 (.slice (some ⟨s, 0, none⟩) n cs) (List.replicate n true)) := k2.row HI1.out.rs fun g hg e => by
        have : s = g := by simpa [Value.ownBlock] using hg
        have := HT.out g e
        have := HS.out
        omega
      have HB2 : Hid (Below w.heap.size w w2) := HI1.out.below.grown hg2 HI1.out.below.size fun g hg => by have := HT.out g hg; have := HMB.out; omega
      have HR2 : Hid (Row rI m w2 (.slice a2 (j + 1) k2s) (List.replicate (j + 1) 1)) := hr2
      have HL2 : Hid (Laid w2 m 41 #[.slice (some ⟨s, 0, none⟩) n cs, vT, vK]) := hl2
      clear hr2 hg2 hl2 hb2 k2 HI1 HT c1 c2 hml
      have HN3 : Hid (NI w (w2.setCell ⟨m, 1, none⟩ (.slice a2 (j + 1) k2s)) m s cs n (j + 1) j (.slice a2 (j + 1) k2s) vK) := NI.mkT HL2.out HS2.out HR2.out HK2.out HB2.out HMB.out
      obtain ⟨w3, hw3⟩ : ∃ w3, w3 = w2.setCell ⟨m, 1, none⟩ (.slice a2 (j + 1) k2s) := ⟨_, rfl⟩
      rw [← hw3] at HN3
      have HW3 : Hid (w3 = w2.setCell ⟨m, 1, none⟩ (.slice a2 (j + 1) k2s)) := hw3
      have hw3' : w2.setCell ⟨m, 1, none⟩ (.slice a2 (j + 1) k2s) = w3 := hw3.symm
      have d2 := HN3.out.laid.cell 2
      simp at d2
      have hm3 := HN3.out.laid.lt
      have HI4 : Hid (NI w (w3.alloc (.cells #[.bool false] 4)) m s cs n (j + 1) j (.slice a2 (j + 1) k2s) vK) := HN3.out.up ((Below.refl _ _).alloc (Nat.le_refl _) _)
      clear hw3 HR2 HK2 HS2 HB2 HL2 c2' HN3
      go_wp2_with (at_builtin; refine list_app rO.kinB rfl _ _ rfl m _ (List.replicate j false) [false] rfl HI4.out.rk (some ⟨w3.heap.size, 0, none⟩) 1 1 rfl rfl ?a2 ?a3 ?a4 ?a5 ?_)
      case a2 => exact Seen.one (by simp) (At.new (R := rO) _ false _ rfl) 1
      case a3 => simp only [List.length_replicate, List.length_cons, List.length_nil]; unfold maxLen; omega
      case a4 => simp only [List.length_replicate, List.length_cons, List.length_nil, show rO.bytes = 1 from rfl]; omega
      case a5 => simp; omega
      intro v5 w5 hr5 hg5
      rw [rep_app] at hr5
      obtain ⟨a5, k5s, rfl⟩ := hr5.form
      rw [List.length_replicate] at hr5 ⊢
      have hl5 : Laid w5 m 41 #[.slice (some ⟨s, 0, none⟩) n cs, .slice a2 (j + 1) k2s, vK] := laid_grow HI4.out.laid HI4.out.rk (by decide) hg5
      have e2 := hl5.cell 2
      have f2 := hl5.frozen 2
      simp at e2
      have hm5 := hl5.lt
      have HT : Hid (∀ g, vK.ownBlock = some g → m ≤ g) := fun g hg => (HI4.out.rk.lt g hg).1
      have k5 : Keeps (w3.alloc (.cells #[.bool false] 4)) w5 (fun b => vK.ownBlock = some b) := Keeps.of_grown hg5
      have HN : Hid (NI w (w5.setCell ⟨m, 2, none⟩ (.slice a5 (j + 1) k5s)) m s cs n (j + 1) (j + 1) (.slice a2 (j + 1) k2s) (.slice a5 (j + 1) k5s)) := by
        refine NI.mkK hl5 (k5.row HI4.out.rs fun g hg e => ?_) (k5.row HI4.out.rt fun g hg e => ?_) hr5 (HI4.out.below.grown hg5 HI4.out.below.size fun g hg => ?_) HMB.out
        · have h3 : s = g := by simpa [Value.ownBlock] using hg
          have := HT.out g e
          have := HS.out
          omega
        · obtain ⟨cur1, h3⟩ := HI4.out.rt.tag hg
          obtain ⟨cur2, h4⟩ := HI4.out.rk.tag e
          exact ne_of_tag h3 h4 (by decide) rfl
        · have := HT.out g hg
          have := HMB.out
          omega
      clear hr5 hg5 hl5 k5 HI4 HT d2 hm3 HW3 hw3' c1' f1 hm2
      go_wp2
      go_roundw
      case rel => exact ⟨j + 1, _, _, by omega, by go_num, HN⟩
      case measure => simp only [intOf]; omega
    · have HJ : Hid (j = (n + 7) / 8) := (by omega : j = (n + 7) / 8)
      have hj1 : 1 ≤ j := by omega
      rcases HI.out.rt.cases with ⟨_, e0⟩ | ⟨t, ct, cur1, e1, _⟩
      · exfalso
        have := congrArg List.length e0
        rw [List.length_replicate, List.length_nil] at this
        omega
      rcases HI.out.rk.cases with ⟨_, e0⟩ | ⟨k, ck, cur2, e2, hk1, _⟩
      · exfalso
        have := congrArg List.length e0
        rw [List.length_replicate, List.length_nil] at this
        omega
      rw [List.length_replicate] at e1 e2
      subst e1
      subst e2
      have HM : Hid (MB w.heap.size wr m s t k cs ct ck (List.replicate n true) (List.replicate j (1, false))) := by
        have l1 : (List.replicate n true).length = n := by simp
        have l2 : (List.replicate j ((1 : Int), false)).length = j := by simp
        refine ⟨?_, ?_, ?_, ?_, HMB.out, ?_⟩
        · rw [l1, l2]; exact HI.out.laid
        · rw [l1]; exact HI.out.rs
        · rw [l2]; have := HI.out.rt.lower HMB.out; simpa using this
        · rw [l2]; have := HI.out.rk.lower HMB.out; simpa using this
        · have := HS.out; omega
      have HB : Hid (Below w.heap.size w wr) := HI.out.below
      have hltz : ¬ (j : Int) * 8 < (n : Int) := by omega
      clear HI hk1
      go_wp2
      go_ret
      exact ⟨m, s, t, k, cs, ct, ck, rfl, by rw [← HJ.out]; exact HM.out, HB.out⟩
end Go.Proofs.YtmmbfgkfidconaaDoor
/- The document's store: Free, Take. -/
namespace Go.Proofs.YtmmbfgkfidconaaDoor
open Go.RowKit

set_option maxRecDepth 100000 in
set_option maxHeartbeats 8000000 in
theorem refFree_any {B : Nat} {w : World} {v : Value} {M : List Bool} (hr : Row rO B w v M) {n : Nat} {L : List Bk} (ho : Okl n L) (hn : M.length = n) (hcv : ∀ x, covB L x = M.getD x false) :
    Calls Tryd.prog 30 #[v] w fun e w' => ∃ v', e = .returned v' ∧ Row rB w.heap.size w' v' L ∧ Below w.heap.size w w' := by
  have hmx := ho.max
  obtain ⟨ao, c, rfl⟩ := hr.form
  have HR : Hid (Row rO B w (.slice ao M.length c) M) := hr
  have HD : Hid (∀ A, FA M M.length A → A = L) := fun A h => h.done ho hcv
  have hBk := fun z o w => refBlock_any ao M.length c z o w (by omega)
  have hln : M.length ≤ 512 := by omega
  clear hr ho hcv hn
  go_enter Tryd.func30, Tryd.ntmps30
  go_wp2
  go_loopw [3, 4] (fun vo av W => ∃ (a : Nat) (A : List Bk), a ≤ M.length ∧ av = .int .i64 a ∧ Hid (FA M a A) ∧ Hid (Row rB w.heap.size W vo A) ∧ Hid (Below w.heap.size w W)) (fun _ av _ => M.length - (intOf av).toNat)
  case atStart => exact ⟨0, [], Nat.zero_le _, rfl, FA.nil M, Row.nil _ _ _, Below.refl _ _⟩
  case round =>
    obtain ⟨a, A, ha, rfl, HA, HV, HB⟩ := hrel
    by_cases hlt : a < M.length
    · have hltz : (a : Int) < (M.length : Int) := by omega
      obtain ⟨g, rfl, _, _, hg, _, _, hat⟩ := (HR.out.below HB.out).at hlt
      have c0 := rO.at hat
      simp only [show rO.n = 1 from rfl, show rO.zero = false from rfl, Nat.mul_one] at c0
      cases hm : M.getD a false with
      | false =>
        rw [hm] at c0
        have HA2 : Hid (FA M (a + 1) A) := HA.out.skip hlt hm
        clear hat hm HA
        go_wp2
        go_roundw
        case rel => exact ⟨a + 1, A, by omega, by go_num, HA2, HV, HB⟩
        case measure => simp only [intOf]; omega
      | true =>
        rw [hm] at c0
        have HM : Hid (M.getD a false = true) := hm
        clear hat hm
        go_wp2_with fail
        clear c0
        go_loopw [5] (fun ov W => ∃ o : Nat, o ≤ 5 ∧ ov = .int .i64 o ∧ W = wr ∧ Hid (alB (a, o) ∧ bend (a, o) ≤ M.length ∧ allM M (a, o) true)) (fun ov _ => 5 - (intOf ov).toNat)
        case atStart => exact ⟨0, by omega, rfl, rfl, ⟨⟨by show (0 : Nat) ≤ 5; omega, ⟨a, by simp⟩⟩, by unfold bend; simp only; omega, fun x hx => by have h1 : a ≤ x := hx.1; have h2 : x < a + 2 ^ 0 := hx.2; obtain rfl : x = a := (by omega); exact HM.out⟩⟩
        case round =>
          obtain ⟨o, h5, rfl, rfl, HO⟩ := hrel
          have hB1 := fun w => hBk (a : Int) ((o : Int) + 1) w
          have hgo : (o < 5 ∧ hasB M.length a ((o : Int) + 1) = true ∧ allM M (a, o + 1) true) ∨ (¬ o < 5) ∨ (o < 5 ∧ hasB M.length a ((o : Int) + 1) = false) ∨ (o < 5 ∧ hasB M.length a ((o : Int) + 1) = true ∧ ¬ allM M (a, o + 1) true) := by
            by_cases h1 : o < 5
            · cases h2 : hasB M.length a ((o : Int) + 1) with
              | false => exact Or.inr (Or.inr (Or.inl ⟨h1, rfl⟩))
              | true =>
                by_cases h3 : allM M (a, o + 1) true
                · exact Or.inl ⟨h1, rfl, h3⟩
                · exact Or.inr (Or.inr (Or.inr ⟨h1, rfl, h3⟩))
            · exact Or.inr (Or.inl h1)
          have HNX : Hid (hasB M.length a ((o : Int) + 1) = true → alB (a, o + 1) ∧ bend (a, o + 1) ≤ M.length) := fun h => by
            obtain ⟨f', k', e1, e2, h1, h2⟩ := hasB_nat h
            obtain rfl : a = f' := by omega
            obtain rfl : o + 1 = k' := by omega
            exact ⟨h1, h2⟩
          have HLF : Hid (o < 5 → 2 ^ (o + 1) ∣ a → (hasB M.length a ((o : Int) + 1) = false ∨ ¬ allM M (a, o + 1) true) → ∃ x, a ≤ x ∧ x < a + 2 ^ (o + 1) ∧ M.getD x false = false) := fun h1 h2 h3 => by
            rcases h3 with h3 | h3
            · have hgt : M.length < a + 2 ^ (o + 1) := by
                rcases Nat.lt_or_ge M.length (a + 2 ^ (o + 1)) with c' | c'
                · exact c'
                · have := hasB_of (n := M.length) (f := a) (k := o + 1) ⟨h1, h2⟩ c'
                  rw [show ((o + 1 : Nat) : Int) = (o : Int) + 1 by omega, h3] at this
                  cases this
              exact ⟨M.length, by omega, hgt, getD_ge (Nat.le_refl _)⟩
            · have ⟨x, hx⟩ := Classical.not_forall.1 h3
              have ⟨hx1, hx2⟩ := Classical.not_imp.1 hx
              exact ⟨x, hx1.1, hx1.2, by cases h4 : M.getD x false with | false => rfl | true => exact absurd h4 hx2⟩
          rcases hgo with ⟨h1, h2, h3⟩ | hex
          · rw [h2] at hB1
            obtain ⟨n1, n2⟩ := HNX.out h2
            have hAl := refAll_any (HR.out.below HB.out) hln (a, o + 1) n1.1 n2 true true ⟨fun _ => h3, fun _ => rfl⟩
            rw [show (((a, o + 1) : Bk).2 : Int) = (o : Int) + 1 by simp] at hAl
            have hz : (o : Int) < 5 := by omega
            have HO2 : Hid (alB (a, o + 1) ∧ bend (a, o + 1) ≤ M.length ∧ allM M (a, o + 1) true) := ⟨n1, n2, h3⟩
            clear h2 h3 n1 n2 HNX HLF HO
            go_wp2_with fail
            refine (hB1 _).mono ?_
            rintro e w5 ⟨rfl, hw⟩
            obtain rfl := hw.symm
            clear hw
            go_wp2_with fail
            refine hAl.mono ?_
            rintro e w5 ⟨rfl, hw⟩
            obtain rfl := hw.symm
            clear hw
            go_wp2
            go_roundw
            case rel => exact ⟨o + 1, by omega, by go_num, by first | rfl | trivial, HO2⟩
            case measure => simp only [intOf]; omega
          · have hPw := fun w => power_any o w (by omega)
            have hpp := pw_pos o
            have HP : Hid (pw o = ((2 ^ o : Nat) : Int)) := rfl
            have hbe : a + 2 ^ o ≤ M.length := HO.out.2.1
            have hps : (a : Int) + pw o ≤ 512 := by have := HP.out; omega
            have hAe : Hid (FA M (a + 2 ^ o) (A ++ [(a, o)])) := HA.out.add HO.out.1 HO.out.2.1 HO.out.2.2 fun h1 h2 => HLF.out h1 h2 (by
              rcases hex with h | h | h
              · exact absurd h1 h
              · exact Or.inl h.2
              · exact Or.inr h.2.2)
            have hAl2 : A.length + 1 ≤ 512 := by
              have := hAe.out.len
              rw [List.length_append] at this
              simp at this
              omega
            have HVA : Hid (Row rB w.heap.size (wr.alloc (.cells #[.int .i64 a, .int .i64 o] 56)) u3 A) := HV.out.below ((Below.refl _ _).alloc (Nat.le_refl _) _)
            have HS : Hid (w.heap.size ≤ wr.heap.size) := HB.out.size
            have HLV : Hid (∀ g, u3.ownBlock = some g → w.heap.size ≤ g) := fun g hg => (HV.out.lt g hg).1
            have hAll : hasB M.length a ((o : Int) + 1) = true → o < 5 → ¬ allM M (a, o + 1) true → Calls Tryd.prog 17 #[.slice (some ⟨g, 0, none⟩) M.length c, .int .i64 a, .int .i64 ((o : Int) + 1), .bool true] wr fun e w' => e = .returned (.bool false) ∧ w' = wr := fun h2 h1 h3 => by
              obtain ⟨n1, n2⟩ := HNX.out h2
              have := refAll_any (HR.out.below HB.out) hln (a, o + 1) n1.1 n2 true false ⟨fun h => (by cases h), fun h => absurd h h3⟩
              rwa [show (((a, o + 1) : Bk).2 : Int) = (o : Int) + 1 by simp] at this
            clear HV HNX HLF HO HA HM
            rcases hex with h1 | ⟨h1, h2⟩ | ⟨h1, h2, h3⟩
            · have hz : ¬ (o : Int) < 5 := by omega
              clear hAll hB1 h1
              go_wp2_with (first | (at_builtin; refine list_app rB.kin rfl _ _ rfl w.heap.size _ A [(a, o)] rfl HVA.out (some ⟨wr.heap.size, 0, none⟩) 1 1 rfl rfl ?a2 ?a3 ?a4 ?a5 ?_))
              case a2 => exact Seen.one (by simp) (At.new (R := rB) _ (a, o) _ rfl) 1
              case a3 => show A.length + 1 ≤ _; unfold maxLen; omega
              case a4 => show (A.length + 1) * 16 ≤ _; omega
              case a5 => have := HS.out; simp; omega
              intro v' w2 hrow hgrow
              have HR2 : Hid (Row rB w.heap.size w2 v' (A ++ [(a, o)])) := hrow
              have HB2 : Hid (Below w.heap.size w w2) := (HB.out.alloc HS.out _).grown hgrow (by have := HS.out; simp; omega) HLV.out
              clear hrow hgrow HVA HB HS HLV
              go_wp2_with (go_at_call 32; refine (hPw _).mono ?_; rintro e w5 ⟨rfl, hw⟩; obtain rfl := hw.symm; clear hw)
              go_roundw
              case rel => exact ⟨a + 2 ^ o, A ++ [(a, o)], hbe, by have := HP.out; rw [this]; simp, hAe, HR2, HB2⟩
              case measure => have := HP.out; have := Nat.two_pow_pos o; simp only [intOf]; omega
            · have hz : (o : Int) < 5 := by omega
              rw [h2] at hB1
              clear hAll h1 h2
              go_wp2_with (first | (at_builtin; refine list_app rB.kin rfl _ _ rfl w.heap.size _ A [(a, o)] rfl HVA.out (some ⟨wr.heap.size, 0, none⟩) 1 1 rfl rfl ?a2 ?a3 ?a4 ?a5 ?_) | (go_at_call 13; refine (hB1 _).mono ?_; rintro e w5 ⟨rfl, hw⟩; obtain rfl := hw.symm; clear hw))
              case a2 => exact Seen.one (by simp) (At.new (R := rB) _ (a, o) _ rfl) 1
              case a3 => show A.length + 1 ≤ _; unfold maxLen; omega
              case a4 => show (A.length + 1) * 16 ≤ _; omega
              case a5 => have := HS.out; simp; omega
              intro v' w2 hrow hgrow
              have HR2 : Hid (Row rB w.heap.size w2 v' (A ++ [(a, o)])) := hrow
              have HB2 : Hid (Below w.heap.size w w2) := (HB.out.alloc HS.out _).grown hgrow (by have := HS.out; simp; omega) HLV.out
              clear hrow hgrow HVA HB HS HLV
              go_wp2_with (go_at_call 32; refine (hPw _).mono ?_; rintro e w5 ⟨rfl, hw⟩; obtain rfl := hw.symm; clear hw)
              go_roundw
              case rel => exact ⟨a + 2 ^ o, A ++ [(a, o)], hbe, by have := HP.out; rw [this]; simp, hAe, HR2, HB2⟩
              case measure => have := HP.out; have := Nat.two_pow_pos o; simp only [intOf]; omega
            · have hz : (o : Int) < 5 := by omega
              have hA3 := hAll h2 h1 h3
              rw [h2] at hB1
              clear hAll h1 h2 h3
              go_wp2_with (first | (at_builtin; refine list_app rB.kin rfl _ _ rfl w.heap.size _ A [(a, o)] rfl HVA.out (some ⟨wr.heap.size, 0, none⟩) 1 1 rfl rfl ?a2 ?a3 ?a4 ?a5 ?_) | (go_at_call 13; refine (hB1 _).mono ?_; rintro e w5 ⟨rfl, hw⟩; obtain rfl := hw.symm; clear hw) | (go_at_call 17; refine hA3.mono ?_; rintro e w5 ⟨rfl, hw⟩; obtain rfl := hw.symm; clear hw))
              case a2 => exact Seen.one (by simp) (At.new (R := rB) _ (a, o) _ rfl) 1
              case a3 => show A.length + 1 ≤ _; unfold maxLen; omega
              case a4 => show (A.length + 1) * 16 ≤ _; omega
              case a5 => have := HS.out; simp; omega
              intro v' w2 hrow hgrow
              have HR2 : Hid (Row rB w.heap.size w2 v' (A ++ [(a, o)])) := hrow
              have HB2 : Hid (Below w.heap.size w w2) := (HB.out.alloc HS.out _).grown hgrow (by have := HS.out; simp; omega) HLV.out
              clear hrow hgrow HVA HB HS HLV
              go_wp2_with (go_at_call 32; refine (hPw _).mono ?_; rintro e w5 ⟨rfl, hw⟩; obtain rfl := hw.symm; clear hw)
              go_roundw
              case rel => exact ⟨a + 2 ^ o, A ++ [(a, o)], hbe, by have := HP.out; rw [this]; simp, hAe, HR2, HB2⟩
              case measure => have := HP.out; have := Nat.two_pow_pos o; simp only [intOf]; omega
    · obtain rfl : a = M.length := by omega
      have hAL := HD.out A HA.out
      rw [hAL] at HV
      go_wp2
      go_ret
      exact ⟨_, rfl, HV.out, HB.out⟩
end Go.Proofs.YtmmbfgkfidconaaDoor
/- The document's store: Take. -/
namespace Go.Proofs.YtmmbfgkfidconaaDoor
open Go.RowKit

theorem lst_found {o : Nat} {L : List Bk} {oo i : Nat} (hi : i < L.length) (he : (L.getD i (0, 0)).2 = oo) (h1 : o ≤ oo) (h2 : ∀ j, j < L.length → (L.getD j (0, 0)).2 < o ∨ oo ≤ (L.getD j (0, 0)).2) (h3 : ∀ j, j < i → (L.getD j (0, 0)).2 ≠ oo) : lst o L L.length = some i := by
  have hs := lst_spec o L L.length
  cases h : lst o L L.length with
  | none =>
    rw [h] at hs
    have := hs i hi
    omega
  | some m =>
    rw [h] at hs
    obtain ⟨s1, s2, s3⟩ := hs
    have t1 := s3 i hi (by omega)
    have t2 := h2 m s1
    have e : (L.getD m (0, 0)).2 = (L.getD i (0, 0)).2 := by omega
    have t3 := t1.2 e
    rcases Nat.lt_or_ge m i with c | c
    · exact absurd (by omega) (h3 m c)
    · rw [show m = i by omega]
theorem lst_lost {o : Nat} {n : Nat} {L : List Bk} (ho : Okl n L) (h2 : ∀ j, j < L.length → (L.getD j (0, 0)).2 < o ∨ 6 ≤ (L.getD j (0, 0)).2) : lst o L L.length = none := by
  have hs := lst_spec o L L.length
  cases h : lst o L L.length with
  | none => rfl
  | some m =>
    rw [h] at hs
    obtain ⟨s1, s2, _⟩ := hs
    have := (ho.good.al _ (ho.get s1)).1
    have := h2 m s1
    omega

/-- Take's answers. -/
def RTakeP (B : Nat) (w : World) (v : Value) (M : List Bool) (L : List Bk) (o : Nat) (e : Ending) (w' : World) : Prop :=
  match lst o L L.length with
  | none => e = .returned (.int .i64 (-1)) ∧ Row rO B w' v M ∧ Below w.heap.size w w'
  | some m => e = .returned (.int .i64 (L.getD m (0, 0)).1) ∧ Row rO B w' v (setK M (L.getD m (0, 0)).1 (2 ^ o) false) ∧ Keeps w w' (fun b => v.ownBlock = some b)

end Go.Proofs.YtmmbfgkfidconaaDoor
/- The document's zone: a group's rooms. -/
namespace Go.Proofs.YtmmbfgkfidconaaDoor
open Go.RowKit

def roomIn (g : Nat) (b : Bk) : List Bk := if b.2 ≤ 3 then (if b.1 / 8 = g then [b] else []) else (if b.1 ≤ g * 8 ∧ g * 8 < bend b then [(g * 8, 3)] else [])
/-- A group's rooms, by rising frames. -/
def RG (L : List Bk) (g : Nat) : List Bk := L.flatMap (roomIn g)
theorem RG_snoc (L : List Bk) (g k : Nat) (hk : k < L.length) : RG (L.take (k + 1)) g = RG (L.take k) g ++ roomIn g (L.getD k (0, 0)) := by
  unfold RG
  rw [take_snoc L k hk, List.flatMap_append]
  simp
theorem roomIn_one (g : Nat) (b : Bk) : (roomIn g b).length ≤ 1 := by
  unfold roomIn
  split <;> split <;> simp
theorem RG_len (g : Nat) : ∀ (L : List Bk), (RG L g).length ≤ L.length
  | [] => by simp [RG]
  | b :: L => by
    have h1 := RG_len g L
    have h2 := roomIn_one g b
    have e : RG (b :: L) g = roomIn g b ++ RG L g := rfl
    rw [e, List.length_append, List.length_cons]
    omega
theorem roomIn_in {b r : Bk} {g : Nat} (h : r ∈ roomIn g b) : (b.2 ≤ 3 ∧ r = b ∧ b.1 / 8 = g) ∨ (3 < b.2 ∧ r = (g * 8, 3) ∧ b.1 ≤ g * 8 ∧ g * 8 < bend b) := by
  unfold roomIn at h
  split at h
  · split at h
    · exact Or.inl ⟨by assumption, by simpa using h, by assumption⟩
    · simp at h
  · split at h
    · rename_i h1 h2
      exact Or.inr ⟨by omega, by simpa using h, h2.1, h2.2⟩
    · simp at h
theorem RG_iff {n : Nat} {L : List Bk} (_ho : Okl n L) (g : Nat) (r : Bk) : r ∈ RG L g ↔ Rm L r ∧ r.1 / 8 = g := by
  unfold RG
  rw [List.mem_flatMap]
  constructor
  · rintro ⟨b, hb, h⟩
    rcases roomIn_in h with ⟨h1, rfl, h2⟩ | ⟨h1, rfl, h2, h3⟩
    · exact ⟨⟨r, hb, Or.inl ⟨h1, rfl⟩⟩, h2⟩
    · exact ⟨⟨b, hb, Or.inr ⟨h1, rfl, ⟨g, by show g * 8 = 8 * g; omega⟩, h2, h3⟩⟩, by show g * 8 / 8 = g; omega⟩
  · rintro ⟨⟨b, hb, h⟩, hg⟩
    refine ⟨b, hb, ?_⟩
    unfold roomIn
    rcases h with ⟨h1, rfl⟩ | ⟨h1, h2, h3, h4, h5⟩
    · rw [if_pos h1, if_pos hg]
      simp
    · have e : r.1 = g * 8 := by omega
      rw [if_neg (by omega), if_pos (by rw [← e]; exact ⟨h4, h5⟩), List.mem_singleton]
      exact Prod.ext e h2
theorem RG_sorted {n : Nat} {L : List Bk} (ho : Okl n L) (g : Nat) : (RG L g).Pairwise fun a b => a.1 < b.1 := by
  have hs := ho.good.sorted
  unfold RG
  have key : ∀ (M : List Bk), M.Pairwise (fun a b => bend a ≤ b.1) → (M.flatMap (roomIn g)).Pairwise fun a b => a.1 < b.1 := by
    intro M
    induction M with
    | nil => intro _; exact List.Pairwise.nil
    | cons b M ih =>
      intro h
      obtain ⟨h1, h2⟩ := List.pairwise_cons.1 h
      rw [List.flatMap_cons, List.pairwise_append]
      refine ⟨?_, ih h2, fun x hx y hy => ?_⟩
      · unfold roomIn
        split <;> split <;> simp
      · obtain ⟨c, hc, hy⟩ := List.mem_flatMap.1 hy
        have := h1 c hc
        have hx1 : x.1 < bend b := by
          rcases roomIn_in hx with ⟨_, rfl, _⟩ | ⟨_, rfl, _, h3⟩
          · exact bend_pos x
          · exact h3
        have hy1 : c.1 ≤ y.1 := by
          rcases roomIn_in hy with ⟨_, rfl, _⟩ | ⟨_, rfl, h3, _⟩
          · exact Nat.le_refl _
          · exact h3
        omega
  exact key L hs

/-- What Rooms tells. -/
def RoomsR (w : World) (L : List Bk) (g : Nat) (e : Ending) (w' : World) : Prop := ∃ v, e = .returned v ∧ Row rB w.heap.size w' v (RG L g) ∧ Below w.heap.size w w'
set_option maxRecDepth 100000 in
set_option maxHeartbeats 8000000 in
theorem refRooms_any {B : Nat} {w : World} {m s t kk cs ct ck : Nat} {M : List Bool} {gs : List Gp} (h : MB B w m s t kk cs ct ck M gs) {n : Nat} {L : List Bk} (ho : Okl n L) (hn : M.length = n) (hcv : ∀ x, covB L x = M.getD x false) (g : Nat) (hg : g ≤ 100) :
    Calls Tryd.prog 52 #[.pointer (some ⟨m, 0, none⟩), .int .i64 g] w (RoomsR w L g) := by
  subst hn
  have hF := refFree_any h.rs ho rfl hcv
  have hlen := ho.len
  have HO : Hid (Okl M.length L) := ho
  have hmx := ho.max
  obtain ⟨c0, -, -⟩ := h.cells
  clear h hcv ho
  go_enter Tryd.func52, Tryd.ntmps52
  go_wp2_with fail
  refine hF.mono ?_
  rintro e w1 ⟨vl, rfl, R1, hb1⟩
  obtain ⟨al, cl, rfl⟩ := R1.form
  obtain ⟨q, hq⟩ : ∃ q, w.heap.size = q := ⟨_, rfl⟩
  have HQ : Hid (w.heap.size = q) := hq
  rw [hq] at R1
  have HR1 : Hid (Row rB q w1 (.slice al L.length cl) L ∧ Below q w w1) := ⟨R1, by rw [← hq]; exact hb1⟩
  have HQ1 : Hid (q ≤ w1.heap.size) := by rw [← hq]; exact hb1.size
  obtain ⟨q1, hq1⟩ : ∃ q1, w1.heap.size = q1 := ⟨_, rfl⟩
  rw [hq1] at HQ1
  have HW1 : Hid (w1.heap.size = q1) := hq1
  clear hF R1 hb1 c0 hq hq1
  go_wp2_with fail
  go_loopw [5, 7] (fun ov iv W => ∃ i : Nat, i ≤ L.length ∧ iv = .int .i64 i ∧ Hid (Row rB q1 W ov (RG (L.take i) g)) ∧ Hid (Below q1 w1 W)) (fun _ iv _ => L.length - (intOf iv).toNat)
  case atStart => exact ⟨0, Nat.zero_le _, rfl, Row.nil _ _ _, Below.refl _ _⟩
  case round =>
    obtain ⟨i, hi, rfl, HV, HB⟩ := hrel
    by_cases hil : i < L.length
    · have hiz : (i : Int) < (L.length : Int) := by omega
      have HLr : Row rB q wr (.slice al L.length cl) L := HR1.out.1.same fun g' hg' => HB.out.block g' (by rw [← HW1.out]; exact (HR1.out.1.lt g' hg').2)
      obtain ⟨gl, rfl, _, _, hgl, _, _, hat⟩ := HLr.at hil
      obtain ⟨x0, x1⟩ := rB.at hat
      simp only [show rB.n = 2 from rfl, show rB.zero = (0, 0) from rfl] at x0 x1
      have hbk := HO.out.blk (HO.out.get hil)
      have HSN : Hid (RG (L.take (i + 1)) g = RG (L.take i) g ++ roomIn g (L.getD i (0, 0))) := RG_snoc L g i hil
      have hrl : (RG (L.take i) g).length ≤ 512 := by have := RG_len g (L.take i); rw [List.length_take] at this; omega
      obtain ⟨b, hb⟩ : ∃ b, L.getD i (0, 0) = b := ⟨_, rfl⟩
      rw [hb] at hbk HSN x0 x1
      obtain ⟨f, o⟩ := b
      simp only at hbk x0 x1
      have HGL : Hid (gl < q1) := by rw [← HW1.out]; exact (HR1.out.1.lt gl rfl).2
      clear hat HLr hb
      have HWS : Hid (q1 ≤ wr.heap.size) := by rw [← HW1.out]; exact HB.out.size
      obtain ⟨X, hX⟩ : ∃ X, RG (L.take i) g = X := ⟨_, rfl⟩
      rw [hX] at HV HSN hrl
      clear hX
      go_wp2_with fail
      go_loopw [8, 9] (fun mv kv W => ∃ j : Nat, j ≤ o ∧ mv = .int .i64 ((2 ^ j : Nat) : Int) ∧ kv = .int .i64 j ∧ W = wr) (fun _ kv _ => o - (intOf kv).toNat)
      case atStart => exact ⟨0, Nat.zero_le _, rfl, rfl, rfl⟩
      case round =>
        obtain ⟨j, hj, rfl, rfl, rfl⟩ := hrel
        by_cases hjo : j < o
        · have hjz : (j : Int) < (o : Int) := by omega
          have hp2 : 2 ^ j ≤ 32 := by have : 2 ^ j ≤ 2 ^ 5 := Nat.pow_le_pow_right (by omega) (by omega); omega
          have HE : Hid (((2 ^ j : Nat) : Int) * 2 = ((2 ^ (j + 1) : Nat) : Int)) := by show ((2 ^ j : Nat) : Int) * 2 = ((2 ^ (j + 1) : Nat) : Int); rw [Nat.pow_succ]; omega
          generalize 2 ^ j = pj at *
          go_wp2
          go_roundw
          case rel => exact ⟨j + 1, by omega, by rw [HE.out], by go_num, by first | rfl | trivial⟩
          case measure => simp only [intOf]; omega
        · obtain rfl : j = o := by omega
          have hp2 : 2 ^ j ≤ 32 := by have : 2 ^ j ≤ 2 ^ 5 := Nat.pow_le_pow_right (by omega) (by omega); omega
          have HBE : Hid (bend (f, j) = f + 2 ^ j) := rfl
          have HBS : Hid (q1 ≤ wr.heap.size) := HWS.out
          have hc : (j ≤ 3 ∧ f / 8 = g) ∨ (j ≤ 3 ∧ ¬ f / 8 = g) ∨ (3 < j ∧ f ≤ g * 8 ∧ g * 8 < f + 2 ^ j) ∨ (3 < j ∧ ¬ f ≤ g * 8) ∨ (3 < j ∧ f ≤ g * 8 ∧ ¬ g * 8 < f + 2 ^ j) := by omega
          have HRI : Hid (roomIn g (f, j) = if j ≤ 3 then (if f / 8 = g then [(f, j)] else []) else (if f ≤ g * 8 ∧ g * 8 < f + 2 ^ j then [(g * 8, 3)] else [])) := rfl
          obtain ⟨pj, hpj⟩ : ∃ pj, 2 ^ j = pj := ⟨_, rfl⟩
          rw [hpj] at hp2 hc HRI ⊢
          clear hpj HBE
          have HVA : Hid (∀ o, Row rB q1 (wr.alloc o) u5 X) := fun o => HV.out.below ((Below.refl _ _).alloc (Nat.le_refl _) _)
          have HLV : Hid (∀ g, u5.ownBlock = some g → q1 ≤ g) := fun g' hg' => (HV.out.lt g' hg').1
          rcases hc with ⟨k1, k2⟩ | ⟨k1, k2⟩ | ⟨k1, k2, k3⟩ | ⟨k1, k2⟩ | ⟨k1, k2, k3⟩
          · have hz1 : (j : Int) ≤ 3 := by omega
            have hz2 : ((f : Int) / 8 == (g : Int)) = true := beq_iff_eq.2 (by omega)
            have hz3 : ¬ (3 : Int) < (j : Int) := by omega
            have HX : Hid (RG (L.take (i + 1)) g = X ++ [(f, j)]) := (by rw [HSN.out, HRI.out, if_pos k1, if_pos k2] : RG (L.take (i + 1)) g = X ++ [(f, j)])
            clear HRI HSN k1 k2
            go_wp2_with (at_builtin; refine list_app rB.kin rfl _ _ rfl q1 _ X [(f, j)] rfl (HVA.out _) (some ⟨wr.heap.size, 0, none⟩) 1 1 rfl rfl ?a2 ?a3 ?a4 ?a5 ?_)
            case a2 => exact Seen.one (by simp) (At.new (R := rB) _ (f, j) _ rfl) 1
            case a3 => show X.length + 1 ≤ maxLen; unfold maxLen; omega
            case a4 => show (X.length + 1) * 16 ≤ 140737488355328; omega
            case a5 => have := HBS.out; simp; omega
            intro v2 w2 hrow hgrow
            have HR2 : Hid (Row rB q1 w2 v2 (RG (L.take (i + 1)) g)) := by rw [HX.out]; exact hrow
            have y1 : w2.cell? ⟨gl, i * 2 + 1, none⟩ = some (.int .i64 j) := by
              have k := (Keeps.of_grown hgrow).block gl (by simp; omega) fun e => by have := HLV.out gl e; have := HGL.out; omega
              rw [World.cell?_of_block k, cell_alloc_old hgl]
              exact x1
            have HB2 : Hid (Below q1 w1 w2) := (HB.out.alloc HBS.out _).grown hgrow (by have := HBS.out; simp; omega) HLV.out
            clear hrow hgrow HVA HB HBS HLV x0 x1
            go_wp2
            go_roundw
            case rel => exact ⟨i + 1, by omega, by go_num, HR2, HB2⟩
            case measure => simp only [intOf]; omega
          · have hz1 : (j : Int) ≤ 3 := by omega
            have hz2 : ((f : Int) / 8 == (g : Int)) = false := beq_eq_false_iff_ne.2 (by omega)
            have hz3 : ¬ (3 : Int) < (j : Int) := by omega
            have HX : Hid (RG (L.take (i + 1)) g = X) := (by rw [HSN.out, HRI.out, if_pos k1, if_neg k2, List.append_nil] : RG (L.take (i + 1)) g = X)
            have HR2 : Hid (Row rB q1 wr u5 (RG (L.take (i + 1)) g)) := by rw [HX.out]; exact HV.out
            clear HRI HSN k1 k2 HVA HLV HV
            go_wp2
            go_roundw
            case rel => exact ⟨i + 1, by omega, by go_num, HR2, HB⟩
            case measure => simp only [intOf]; omega
          · have hz1 : ¬ (j : Int) ≤ 3 := by omega
            have hz3 : (3 : Int) < (j : Int) := by omega
            have hz4 : (f : Int) ≤ (g : Int) * 8 := by omega
            have hz5 : (g : Int) * 8 < (f : Int) + (pj : Int) := by omega
            have HX : Hid (RG (L.take (i + 1)) g = X ++ [(g * 8, 3)]) := (by rw [HSN.out, HRI.out, if_neg (by omega), if_pos ⟨k2, k3⟩] : RG (L.take (i + 1)) g = X ++ [(g * 8, 3)])
            clear HRI HSN k1 k2 k3
            go_wp2_with (at_builtin; refine list_app rB.kin rfl _ _ rfl q1 _ X [(g * 8, 3)] rfl (HVA.out _) (some ⟨wr.heap.size, 0, none⟩) 1 1 rfl rfl ?a2 ?a3 ?a4 ?a5 ?_)
            case a2 => exact Seen.one (by simp) (At.new (R := rB) _ (g * 8, 3) _ (by simp [rB, bcells])) 1
            case a3 => show X.length + 1 ≤ maxLen; unfold maxLen; omega
            case a4 => show (X.length + 1) * 16 ≤ 140737488355328; omega
            case a5 => have := HBS.out; simp; omega
            intro v2 w2 hrow hgrow
            have HR2 : Hid (Row rB q1 w2 v2 (RG (L.take (i + 1)) g)) := by rw [HX.out]; exact hrow
            have HB2 : Hid (Below q1 w1 w2) := (HB.out.alloc HBS.out _).grown hgrow (by have := HBS.out; simp; omega) HLV.out
            clear hrow hgrow HVA HB HBS HLV x0 x1
            go_wp2
            go_roundw
            case rel => exact ⟨i + 1, by omega, by go_num, HR2, HB2⟩
            case measure => simp only [intOf]; omega
          · have hz1 : ¬ (j : Int) ≤ 3 := by omega
            have hz3 : (3 : Int) < (j : Int) := by omega
            have hz4 : ¬ (f : Int) ≤ (g : Int) * 8 := by omega
            have HX : Hid (RG (L.take (i + 1)) g = X) := (by rw [HSN.out, HRI.out, if_neg (by omega), if_neg (by omega), List.append_nil] : RG (L.take (i + 1)) g = X)
            have HR2 : Hid (Row rB q1 wr u5 (RG (L.take (i + 1)) g)) := by rw [HX.out]; exact HV.out
            clear HRI HSN k1 k2 HVA HLV HV
            go_wp2
            go_roundw
            case rel => exact ⟨i + 1, by omega, by go_num, HR2, HB⟩
            case measure => simp only [intOf]; omega
          · have hz1 : ¬ (j : Int) ≤ 3 := by omega
            have hz3 : (3 : Int) < (j : Int) := by omega
            have hz4 : (f : Int) ≤ (g : Int) * 8 := by omega
            have hz5 : ¬ (g : Int) * 8 < (f : Int) + (pj : Int) := by omega
            have HX : Hid (RG (L.take (i + 1)) g = X) := (by rw [HSN.out, HRI.out, if_neg (by omega), if_neg (by omega), List.append_nil] : RG (L.take (i + 1)) g = X)
            have HR2 : Hid (Row rB q1 wr u5 (RG (L.take (i + 1)) g)) := by rw [HX.out]; exact HV.out
            clear HRI HSN k1 k2 k3 HVA HLV HV
            go_wp2
            go_roundw
            case rel => exact ⟨i + 1, by omega, by go_num, HR2, HB⟩
            case measure => simp only [intOf]; omega
    · obtain rfl : i = L.length := by omega
      rw [List.take_length] at HV
      have HF : Hid (Row rB w.heap.size wr u5 (RG L g) ∧ Below w.heap.size w wr) := by
        rw [HQ.out]
        refine ⟨HV.out.lower HQ1.out, HR1.out.2.trans ?_⟩
        exact HB.out.mono HQ1.out
      clear HV HB
      go_wp2
      go_ret
      exact ⟨_, rfl, HF.out.1, HF.out.2⟩
end Go.Proofs.YtmmbfgkfidconaaDoor
/- The document's zone: the best room. -/
namespace Go.Proofs.YtmmbfgkfidconaaDoor
open Go.RowKit

/-- What has been seen: all rooms of the groups below g, and the first i of its own. -/
def Sq (gs : List Gp) (L : List Bk) (s : Option Int) (o g i : Nat) (r : Bk) : Prop := (Cn gs L s o r ∧ r.1 < g * 8) ∨ (r ∈ (RG L g).take i ∧ o ≤ r.2)
def BI (lo : Bool) (gs : List Gp) (L : List Bk) (s : Option Int) (o g i : Nat) (a : Option Bk) : Prop := Bst lo (Sq gs L s o g i) a
section
variable {lo : Bool} {gs : List Gp} {L : List Bk} {s : Option Int} {o g i n : Nat} {a : Option Bk}
theorem BI.start (h : In lo gs L s o (g * 8) a) : BI lo gs L s o g 0 a := by
  refine h.congr fun r => ⟨fun hr => ?_, fun hr => Or.inl hr⟩
  rcases hr with hr | hr
  · exact hr
  · simp at hr
theorem RG_at (hi : i < (RG L g).length) : (RG L g).take (i + 1) = (RG L g).take i ++ [(RG L g).getD i (0, 0)] := take_snoc _ i hi
theorem BI.skip (h : BI lo gs L s o g i a) (hi : i < (RG L g).length) (hr : ((RG L g).getD i (0, 0)).2 < o) : BI lo gs L s o g (i + 1) a := by
  refine h.congr fun r => ⟨fun hx => ?_, fun hx => ?_⟩
  · rcases hx with hx | ⟨hx, hx2⟩
    · exact Or.inl hx
    · rw [RG_at hi] at hx
      rcases List.mem_append.1 hx with hx | hx
      · exact Or.inr ⟨hx, hx2⟩
      · rw [List.mem_singleton] at hx
        rw [hx] at hx2
        omega
  · rcases hx with hx | ⟨hx, hx2⟩
    · exact Or.inl hx
    · exact Or.inr ⟨by rw [RG_at hi]; exact List.mem_append.2 (Or.inl hx), hx2⟩
theorem BI.step (ho : Okl n L) (h : BI lo gs L s o g i a) (hi : i < (RG L g).length) (hr : o ≤ ((RG L g).getD i (0, 0)).2) : BI lo gs L s o g (i + 1) (nxt lo ((RG L g).getD i (0, 0)) a) := by
  have hm : (RG L g).getD i (0, 0) ∈ RG L g := by
    rw [List.getD_eq_getElem?_getD, List.getElem?_eq_getElem hi]
    exact List.getElem_mem hi
  have hg := ((RG_iff ho g _).1 hm).2
  refine Bst.step h _ (fun x hx => ?_) fun x => ⟨fun hx => ?_, fun hx => ?_⟩
  · rcases hx with hx | ⟨hx, _⟩
    · have := hx.2
      omega
    · obtain ⟨j, hj, e⟩ := List.getElem_of_mem hx
      rw [List.getElem_take] at e
      have hj' : j < i := by simp at hj; omega
      have := List.pairwise_iff_getElem.1 (RG_sorted ho g) j i (by omega) hi hj'
      rw [List.getD_eq_getElem?_getD, List.getElem?_eq_getElem hi, Option.getD_some, ← e]
      omega
  · rcases hx with hx | ⟨hx, hx2⟩
    · exact Or.inl (Or.inl hx)
    · rw [RG_at hi] at hx
      rcases List.mem_append.1 hx with hx | hx
      · exact Or.inl (Or.inr ⟨hx, hx2⟩)
      · exact Or.inr (List.mem_singleton.1 hx)
  · rcases hx with (hx | ⟨hx, hx2⟩) | rfl
    · exact Or.inl hx
    · exact Or.inr ⟨by rw [RG_at hi]; exact List.mem_append.2 (Or.inl hx), hx2⟩
    · exact Or.inr ⟨by rw [RG_at hi]; exact List.mem_append.2 (Or.inr (List.mem_singleton.2 rfl)), hr⟩
theorem BI.done (ho : Okl n L) (hg : gok gs s g) (h : BI lo gs L s o g (RG L g).length a) : In lo gs L s o ((g + 1) * 8) a := by
  refine h.congr fun r => ⟨fun hx => ?_, fun hx => ?_⟩
  · rcases Nat.lt_or_ge r.1 (g * 8) with c | c
    · exact Or.inl ⟨hx.1, c⟩
    · refine Or.inr ⟨?_, hx.1.2.1⟩
      rw [List.take_length]
      exact (RG_iff ho g r).2 ⟨hx.1.1, by have := hx.2; omega⟩
  · rcases hx with hx | ⟨hx, hx2⟩
    · exact ⟨hx.1, by have := hx.2; omega⟩
    · rw [List.take_length] at hx
      have := (RG_iff ho g r).1 hx
      exact ⟨⟨this.1, hx2, by rw [this.2]; exact hg⟩, by have := this.2; omega⟩
end
def grA : Option Bk → Int
  | none => -1
  | some r => ((r.1 / 8 : Nat) : Int)
def ouA : Option Bk → Bk
  | none => (0, 0)
  | some r => r
/-- Which sort is asked for. -/
def soV (s : Option Int) (v : Int) : Prop := (s = none ∧ v = -1) ∨ (s = some v ∧ 0 ≤ v)
/-- What best tells. -/
def BestP (w : World) (m : Option Bk) (e : Ending) (w' : World) : Prop := e = .returned (.tuple #[bval (ouA m), .int .i64 (grA m)]) ∧ Below w.heap.size w w'
/-- At the head of the loop over the groups. -/
def BR1 (lo : Bool) (gs : List Gp) (L : List Bk) (s : Option Int) (o : Nat) (q : Nat) (w : World) (gv iv : Value) (W : World) : Prop :=
  ∃ (g : Nat) (a : Option Bk) (x : Int), g ≤ gs.length ∧ gv = .int .i64 x ∧ iv = .int .i64 g ∧ Hid (x = grA a ∧ In lo gs L s o (g * 8) a ∧ Laid W q 56 (bcells (0, 0)).toArray ∧ Laid W (q + 1) 56 (bcells (ouA a)).toArray ∧ Below w.heap.size w W)
/-- .. over a group's rooms. -/
def BR2 (lo : Bool) (gs : List Gp) (L : List Bk) (s : Option Int) (o g : Nat) (q ql : Nat) (vl : Value) (w : World) (gv iv : Value) (W : World) : Prop :=
  ∃ (i : Nat) (a : Option Bk) (x : Int), i ≤ (RG L g).length ∧ gv = .int .i64 x ∧ iv = .int .i64 i ∧ Hid (x = grA a ∧ BI lo gs L s o g i a ∧ Laid W q 56 (bcells (0, 0)).toArray ∧ Laid W (q + 1) 56 (bcells (ouA a)).toArray ∧ Row rB ql W vl (RG L g) ∧ Below w.heap.size w W)
section
variable {lo : Bool} {gs : List Gp} {L : List Bk} {so : Option Int} {o g q ql i : Nat} {vl : Value} {w wr W : World} {a : Option Bk} {x : Int}
def BH (lo : Bool) (gs : List Gp) (L : List Bk) (so : Option Int) (o g q ql i : Nat) (vl : Value) (w wr : World) (a : Option Bk) (x : Int) : Prop :=
  x = grA a ∧ BI lo gs L so o g i a ∧ Laid wr q 56 (bcells (0, 0)).toArray ∧ Laid wr (q + 1) 56 (bcells (ouA a)).toArray ∧ Row rB ql wr vl (RG L g) ∧ Below w.heap.size w wr
theorem BH.less (h : BH lo gs L so o g q ql i vl w wr a x) (hi : i < (RG L g).length) (hn : BI lo gs L so o g (i + 1) a) (hb : Below wr.heap.size wr W) : BR2 lo gs L so o g q ql vl w (.int .i64 x) (.int .i64 ((i : Int) + 1)) W := by
  obtain ⟨h1, h2, h3, h4, h5, h6⟩ := h
  exact ⟨i + 1, a, x, hi, rfl, by simp, h1, hn, h3.below hb, h4.below hb, h5.below hb, below_call' h6 hb⟩
theorem BH.more {r : Bk} (h : BH lo gs L so o g q ql i vl w wr a x) (hi : i < (RG L g).length) (hn : BI lo gs L so o g (i + 1) (some r)) (hg : r.1 / 8 = g) (hq : w.heap.size = q) (hl : q + 1 < ql) (hb : Below wr.heap.size wr W) :
    BR2 lo gs L so o g q ql vl w (.int .i64 g) (.int .i64 ((i : Int) + 1)) ((W.setCell ⟨q + 1, 0, none⟩ (.int .i64 r.1)).setCell ⟨q + 1, 1, none⟩ (.int .i64 r.2)) := by
  obtain ⟨h1, h2, h3, h4, h5, h6⟩ := h
  have k2 : Keeps W ((W.setCell ⟨q + 1, 0, none⟩ (.int .i64 r.1)).setCell ⟨q + 1, 1, none⟩ (.int .i64 r.2)) (fun b => b = q + 1) := (Keeps.set _ _ _ _).trans (Keeps.set _ _ _ _) fun _ _ h => h
  have l3 := h3.below hb
  have l4 := h4.below hb
  have l6 := below_call' h6 hb
  have e4 := heap_setCell_same (W.setCell ⟨q + 1, 0, none⟩ (.int .i64 r.1)) (q + 1) 1 _ _ (.int .i64 r.2) (heap_setCell_same W (q + 1) 0 _ _ (.int .i64 r.1) l4)
  refine ⟨i + 1, some r, g, hi, rfl, by simp, by simp [grA, hg], hn, (k2.block q l3.lt (by omega)).trans l3, ?_, k2.row (h5.below hb) fun g' hg' e => ?_, l6.trans (k2.below l6.size fun c _ e => by omega)⟩
  · simpa [bcells, Laid, ouA] using e4
  · have := (h5.lt g' hg').1
    omega
end
end Go.Proofs.YtmmbfgkfidconaaDoor
