/- slices.Replace(s, i, i+1, v...) over rows of one kind of record: in place by more than one; all its ways. -/
import Derived.Test.YtbpihdeinkopfaaDoorURep
namespace Go.Proofs.YtbpihdeinkopfaaDoor
open Go.RowKit

/-- What 'in place, what is new being longer' needs. -/
theorem prepD_rB {B : Nat} {w : World} {g c q cq : Nat} {l M : List Bk} (hown : Row rB B w (.slice (some ⟨g, 0, none⟩) l.length c) l) (hsrc : Row rB 0 w (.slice (some ⟨q, 0, none⟩) M.length cq) M) (hqg : q ≠ g)
    (i r : Nat) (hi : l.length = i + 1 + r) (hM : 2 ≤ M.length) (hfit : i + M.length + r ≤ c) :
    ∃ (W1 W2 : World),
      (∀ lb ca, (callFunc 44 #[.slice (some ⟨g, (i + M.length) * 2, none⟩) lb ca, .slice (some ⟨q, 0, none⟩) M.length cq]).run Tryd.prog w = .ok (.value (.bool false)) w) ∧
      (∀ dc sc ty, (Builtin.copy_ #[46, 46] ty #[.slice (some ⟨g, (i + M.length) * 2, none⟩) r dc, .slice (some ⟨g, (i + 1) * 2, none⟩) r sc]).run Tryd.prog w.drew = .ok (goInt (l.drop (i + 1)).length) W1) ∧
      (∀ dc ty, (Builtin.copy_ #[46, 46] ty #[.slice (some ⟨g, i * 2, none⟩) (M.length + r) dc, .slice (some ⟨q, 0, none⟩) M.length cq]).run Tryd.prog W1 = .ok (goInt M.length) W2) ∧
      TurnPrB w B (.slice (some ⟨g, 0, none⟩) l.length c) (l.take i ++ (M ++ l.drop (i + 1))) (.returned (.slice (some ⟨g, 0, none⟩) (i + M.length + r) c)) W2 := by
  obtain ⟨_, _, hlt, cur0, hg0, hlc, hcm, hs0, hc0⟩ := hown.cur
  have hs0' : cur0.size = c * 2 := hs0
  obtain ⟨kA, hsa⟩ := hown.shape (by omega)
  obtain ⟨kB, hsb⟩ := hsrc.shape (by omega)
  have hsz : ∀ w, (sizeOf 48).run Tryd.prog w = .ok 2 w := fun w => by
    obtain ⟨i0, z0, hi0, hz0, hz1, _⟩ := rB.kin.inf
    have hi0' : Tryd.prog.info? 48 = some i0 := hi0
    have hz1' : i0.size = 2 := hz1
    simp [sizeOf, typeInfo, hi0', hz1']
  obtain ⟨W1, hW1⟩ : ∃ W1, W1 = w.drew.setCells g ((i + M.length) * 2) (rB.all (l.drop (i + 1))) := ⟨_, rfl⟩
  have hk1 : Keeps w W1 (fun b => b = g) := by rw [hW1]; exact keeps_drew (Keeps.sets _ _ _ _)
  have hg1 : W1.heap[g]? = some (.cells (wrs cur0 ((i + M.length) * 2) (rB.all (l.drop (i + 1)))) rB.t (0, 0)) := by rw [hW1]; exact heap_sets _ w.drew _ _ cur0 _ hg0
  refine ⟨W1, W1.setCells g (i * 2) (rB.all M), fun lb ca => ?_, fun dc sc ty => ?_, fun dc ty => ?_, _, rfl, ?_, keeps_own (hk1.trans (Keeps.sets _ W1 _ _) fun _ _ h => h), fun g' hg' => Or.inl hg'⟩
  · rw [run_callFunc_extern Tryd.func44 (by kernel_rfl) (by kernel_rfl) (by kernel_rfl) (e := Extern.SlicesOverlaps.overlaps #[46, 46] #[4]) (by kernel_rfl),
      Lib.run_overlaps_apart w 46 4 48 Tryd.underlying46 2 hsz ⟨g, (i + M.length) * 2, none⟩ ⟨q, 0, none⟩ lb ca M.length cq hqg.symm _ _ _ _ hsa hsb (by omega) (hown.frozen _) (hown.frozen _)]
    rfl
  · rw [hW1]
    exact copy_row (W := w.drew) rB.kin (l.drop (i + 1)) (by simp only [Nat.min_def, List.length_drop]; split <;> omega) (fun j hj => (hown.below (Below.refl _ _).drew).spare ((i + M.length) * 2 + j) (by have hj' : j < (l.drop (i + 1)).length * 2 := hj; rw [List.length_drop] at hj'; show _ < c * 2; omega)) (fun j u hj => hown.news (i + 1) j u hj) ty
  · exact copy_row rB.kin M (by simp only [Nat.min_def]; split <;> omega) (fun j hj => blk_spare hg1 (by have hj' : j < M.length * 2 := hj; rw [wrs_size]; omega)) (fun j u hj => by
      have := (hk1.row hsrc (fun g' hg' e => by simp [Value.ownBlock] at hg'; omega)).news 0 j u (by simpa using hj)
      simpa using this) ty
  · rw [hW1]
    exact Row.repl (R := rB) (w := w.drew) (hown.below (Below.refl _ _).drew) i (i + 1) M (by omega) (by omega) (by omega)

set_option maxRecDepth 100000 in
set_option maxHeartbeats 4000000 in
/-- In place, by more. -/
theorem replaceD_rB {B : Nat} {w : World} {g c q cq : Nat} {l M : List Bk} (hown : Row rB B w (.slice (some ⟨g, 0, none⟩) l.length c) l) (hsrc : Row rB 0 w (.slice (some ⟨q, 0, none⟩) M.length cq) M) (hqg : q ≠ g) (hM : 2 ≤ M.length) (hm : l.length + M.length ≤ 4096)
    (i r : Nat) (hi : l.length = i + 1 + r) (hr : 0 < r) (hfit : i + M.length + r ≤ c) :
    Calls Tryd.prog 38 #[.slice (some ⟨g, 0, none⟩) l.length c, .int .i64 i, .int .i64 ((i + 1 : Nat) : Int), .slice (some ⟨q, 0, none⟩) M.length cq] w (TurnPrB w B (.slice (some ⟨g, 0, none⟩) l.length c) (l.take i ++ (M ++ l.drop (i + 1)))) := by
  obtain ⟨_, _, hlt, cur0, hg0, hlc, hcm, hs0, hc0⟩ := hown.cur
  have hcm' : c ≤ 9223372036854775807 := by unfold maxLen at hcm; omega
  have HP := fun n => prepD_rB (w := w.drewN n) (M := M) (hown.below (below_drewN (Below.refl _ _) n)) (hsrc.below (below_drewN (Below.refl _ _) n)) hqg i r hi hM hfit
  have hic : i ≤ c := by omega
  have hci : ¬ (c = i) := by omega
  have hcj : ¬ (c = i + 1) := by omega
  have hjc : i + 1 ≤ c := by omega
  have hmm : i + M.length + r ≤ 4096 := by omega
  rw [hi] at HP ⊢
  generalize l.drop (i + 1) = l2 at *
  generalize l.take i = l1 at *
  obtain ⟨m, hme⟩ : ∃ m, m = M.length := ⟨_, rfl⟩
  rw [← hme] at HP hM hm hmm hfit ⊢
  have HP' : Hid _ := HP
  have hnj : ¬ ((i : Int) + 1 = (i : Int) + 1 + (r : Int)) := by omega
  have hrz : ¬ ((c : Int) < (i : Int) + (m : Int) + (r : Int)) := by omega
  have hmj : ¬ ((i : Int) + (m : Int) ≤ (i : Int) + 1) := by omega
  have hcm2 : ¬ (c = i + m) := by omega
  clear hown hsrc hc0 hg0 hs0 hcm hlt hlc hi hm HP hme
  go_enter Tryd.func38, Tryd.ntmps38
  go_wp2
  go_quiet (fail)
  obtain ⟨W1, W2, hov, hc1, hc2, hX⟩ := HP'.out nq
  have hX' := turn_drewN hX
  have HX : Hid (TurnPrB w B (.slice (some ⟨g, 0, none⟩) (i + 1 + r) c) (l1 ++ (M ++ l2)) (.returned (.slice (some ⟨g, 0, none⟩) (i + m + r) c)) W2) := hX'
  have HC1 : Hid (∀ dc sc ty, (Builtin.copy_ #[46, 46] ty #[.slice (some ⟨g, (i + m) * 2, none⟩) r dc, .slice (some ⟨g, (i + 1) * 2, none⟩) r sc]).run Tryd.prog (w.drewN nq).drew = .ok (goInt l2.length) W1) := hc1
  have HC2 : Hid (∀ dc ty, (Builtin.copy_ #[46, 46] ty #[.slice (some ⟨g, i * 2, none⟩) (m + r) dc, .slice (some ⟨q, 0, none⟩) m cq]).run Tryd.prog W1 = .ok (goInt m) W2) := hc2
  clear hX hX' hc1 hc2 HP'
  generalize w.drewN nq = w0 at *
  have hb6 : (0 : Int) ≤ (i : Int) + 1 := by omega
  have hb7 : (i : Int) + 1 ≤ (i : Int) + 1 + (r : Int) := by omega
  have hb8 : ((i : Int) + 1).toNat = i + 1 := by omega
  have hb9 : i + 1 + r - (i + 1) = r := by omega
  have hb10 : i + m + r - (i + m) = r := by omega
  have hb11 : i + m + r - i = m + r := by omega
  have hw1 : IntKind.i64.wrap ((i : Int) + (m : Int)) = (i : Int) + (m : Int) := by rw [IntKind.wrap_i64]; omega
  have hb1' : (0 : Int) ≤ (i : Int) + (m : Int) := by omega
  have hb2' : (i : Int) + (m : Int) ≤ (i : Int) + (m : Int) + (r : Int) := by omega
  have htn : ((i : Int) + (m : Int)).toNat = i + m := by omega
  go_wp2_with (simp only [hov])
  go_region_law (refine step_copyR rfl _ _ rfl (.slice (some ⟨g, (i + m) * 2, none⟩) r (c - (i + m))) (.slice (some ⟨g, (i + 1) * 2, none⟩) r (c - (i + 1))) (by simp [Act.eval, Act.put]) (by simp [Act.eval, Act.put]) (HC1.out _ _) ?_)
  go_wp2_with (refine list_copyR _ rfl _ _ rfl _ _ rfl rfl (HC2.out _) ?_)
  go_ret
  exact HX.out

/-- Replace by a row of one's own: all its ways. -/
theorem replace_rB {B : Nat} {w : World} {v u : Value} {l M : List Bk} (hown : Row rB B w v l) (hsrc : Row rB 0 w u M) (hnil : M = [] → u = .slice none 0 0) (hne : ∀ g, v.ownBlock = some g → u.ownBlock ≠ some g) (hm : l.length + M.length ≤ 4096) (hB : B ≤ w.heap.size)
    (i : Nat) (hi : i < l.length) :
    Calls Tryd.prog 38 #[v, .int .i64 i, .int .i64 ((i + 1 : Nat) : Int), u] w (TurnPrB w B v (l.take i ++ (M ++ l.drop (i + 1)))) := by
  rcases hown.cases with ⟨rfl, rfl⟩ | ⟨g, c, cur, rfl, _, _, _, h1, h2, _⟩
  · simp at hi
  · obtain ⟨r, hr⟩ : ∃ r, l.length = i + 1 + r := ⟨l.length - (i + 1), by omega⟩
    rcases hsrc.cases with ⟨rfl, rfl⟩ | ⟨q, cq, cur', rfl, _, _, _, h3, h4, _⟩
    · by_cases h0 : r = 0
      · subst h0
        have := replaceA0_rB hown i hr
        rw [List.drop_eq_nil_of_le (by omega), List.append_nil, List.append_nil]
        exact this
      · exact replaceC0_rB hown (by omega) i r hr (by omega)
    · have hM : 0 < M.length := by
        rcases Nat.eq_zero_or_pos M.length with h | h
        · have := hnil (List.eq_nil_of_length_eq_zero h)
          cases this
        · exact h
      have hqg : q ≠ g := fun e => hne g rfl (by rw [e]; rfl)
      by_cases h0 : r = 0
      · subst h0
        have := replaceA_rB hown hsrc hM hm hB i hr
        rw [List.drop_eq_nil_of_le (by omega), List.append_nil]
        exact this
      · rcases Nat.lt_or_ge c (i + M.length + r) with hc | hc
        · exact replaceN_rB hown hsrc hM hm hB i r hr (by omega) hc
        · by_cases h5 : M.length = 1
          · exact replaceC1_rB hown hsrc h5 (by omega) i r hr (by omega) _ rfl
          · exact replaceD_rB hown hsrc hqg (by omega) hm i r hr (by omega) hc
end Go.Proofs.YtbpihdeinkopfaaDoor
