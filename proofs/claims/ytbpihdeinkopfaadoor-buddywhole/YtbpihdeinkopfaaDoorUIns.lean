/- slices.Insert over rows of one kind of record. -/
import Derived.Test.YtbpihdeinkopfaaDoorUSli
import Derived.Lib.Overlaps
import Derived.Lib.JoinLaws
import Derived.Laws.Externs
namespace Go.Proofs.YtbpihdeinkopfaaDoor
open Go.RowKit

set_option maxRecDepth 100000 in
set_option maxHeartbeats 4000000 in
/-- At the end. -/
theorem insertE_rB {B : Nat} {w : World} {v : Value} {q cq : Nat} {l M : List Bk} (hown : Row rB B w v l) (hsrc : Row rB 0 w (.slice (some ⟨q, 0, none⟩) M.length cq) M) (hM : 0 < M.length) (hm : l.length + M.length ≤ 4096) (hB : B ≤ w.heap.size) :
    Calls Tryd.prog 35 #[v, .int .i64 l.length, .slice (some ⟨q, 0, none⟩) M.length cq] w (TurnPrB w B v (l ++ M)) := by
  have hz1 : ¬ ((M.length : Int) = 0) := by omega
  have HS : Hid (Seen rB w (some ⟨q, 0, none⟩) cq M) := hsrc.seen.2
  have HO : Hid (Row rB B w v l) := hown
  have hcase : (v = .slice none 0 0 ∧ l.length = 0) ∨ ∃ g c, v = .slice (some ⟨g, 0, none⟩) l.length c ∧ l.length ≤ c ∧ c ≤ 9223372036854775807 := by
    rcases hown.cases with ⟨rfl, rfl⟩ | ⟨g, c, cur, rfl, _, _, _, h1, h2, _⟩
    · exact Or.inl ⟨rfl, rfl⟩
    · exact Or.inr ⟨g, c, rfl, h1, by unfold maxLen at h2; omega⟩
  clear hown hsrc
  rcases hcase with ⟨rfl, h0⟩ | ⟨g, c, rfl, hlc, hcm⟩
  · rw [h0]
    go_enter Tryd.func35, Tryd.ntmps35
    go_wp2_with (at_builtin; refine list_app' rB.kin rfl _ _ rfl B _ l M rfl HO.out (some ⟨q, 0, none⟩) M.length cq rfl rfl HS.out ?c3 ?c4 hB ?_)
    case c3 => unfold maxLen; omega
    case c4 => show _ * 16 ≤ _; omega
    intro v' w1 ho hgrow hw _
    have HR : Hid (Row rB B w1 v' (l ++ M)) := ho
    have HG : Hid (w.grownBy w1 (Value.slice none 0 0).ownBlock) := hgrow
    have HW : Hid (∀ g, v'.ownBlock = some g → _ ∨ w.heap.size ≤ g) := hw
    clear ho hgrow hw
    go_wp2
    go_ret
    refine ⟨v', rfl, HR.out, (Keeps.of_grown HG.out).mono fun _ _ e => e.symm ▸ rfl, HW.out⟩
  · obtain ⟨A, hA⟩ : ∃ A : Addr, (if c = l.length then some (⟨g, 0, none⟩ : Addr) else some ⟨g, l.length * 2, none⟩) = some A := by
      split
      · exact ⟨_, rfl⟩
      · exact ⟨_, rfl⟩
    go_enter Tryd.func35, Tryd.ntmps35
    go_wp2_with (at_builtin; refine list_app' rB.kin rfl _ _ rfl B _ l M rfl HO.out (some ⟨q, 0, none⟩) M.length cq rfl rfl HS.out ?c3 ?c4 hB ?_)
    case c3 => unfold maxLen; omega
    case c4 => show _ * 16 ≤ _; omega
    intro v' w1 ho hgrow hw
    have HR : Hid (Row rB B w1 v' (l ++ M)) := ho
    have HG : Hid (w.grownBy w1 (Value.slice (some ⟨g, 0, none⟩) l.length c).ownBlock) := hgrow
    have HW : Hid (∀ g, v'.ownBlock = some g → _ ∨ w.heap.size ≤ g) := hw
    clear ho hgrow hw
    go_wp2
    go_ret
    refine ⟨v', rfl, HR.out, (Keeps.of_grown HG.out).mono fun _ _ e => e.symm ▸ rfl, HW.out⟩

theorem info_rB : (Tryd.prog.info? 48).map (fun i => i.size) = some 2 := by kernel_rfl

set_option maxRecDepth 100000 in
set_option maxHeartbeats 4000000 in
/-- No room: a new row. -/
theorem insertN_rB {B : Nat} {w : World} {g c q cq : Nat} {l M : List Bk} (hown : Row rB B w (.slice (some ⟨g, 0, none⟩) l.length c) l) (hsrc : Row rB 0 w (.slice (some ⟨q, 0, none⟩) M.length cq) M) (hM : 0 < M.length) (hm : l.length + M.length ≤ 4096) (hB : B ≤ w.heap.size)
    (i : Nat) (hi : i < l.length) (hroom : c < l.length + M.length) :
    Calls Tryd.prog 35 #[.slice (some ⟨g, 0, none⟩) l.length c, .int .i64 i, .slice (some ⟨q, 0, none⟩) M.length cq] w (TurnPrB w B (.slice (some ⟨g, 0, none⟩) l.length c) (l.take i ++ (M ++ l.drop i))) := by
  obtain ⟨_, _, hlt, cur0, hg0, hlc, hcm, hs0, hc0⟩ := hown.cur
  obtain ⟨_, _, hltq, _⟩ := hsrc.cur
  have hz1 : ¬ ((M.length : Int) = 0) := by omega
  have hz2 : ¬ ((i : Int) = (l.length : Int)) := by omega
  have hic : i ≤ c := by omega
  have hcm' : c ≤ 9223372036854775807 := by unfold maxLen at hcm; omega
  have hci : ¬ (c = i) := by omega
  obtain ⟨k, hk⟩ : ∃ k, k = l.length + M.length - i := ⟨_, rfl⟩
  obtain ⟨G, cur, hG1, hG2, hcs, hold, hz⟩ := run_zerosR rB.kin 3 Tryd.underlying3 w g i c k (l.take i) (by simp; omega) (by omega) (by omega) (by show _ * 16 ≤ _; omega) (by unfold maxLen; omega) (fun j u hj => by
    have h0 := hown.news 0
    rw [List.drop_zero] at h0
    have h1 := h0 j u (by
      rw [← List.take_append_drop i l, Rec.all_append, List.getElem?_append_left (List.getElem?_eq_some_iff.1 hj).1]
      exact hj)
    simpa using h1)
  obtain ⟨W1, hW1⟩ : ∃ W1, W1 = w.drew.alloc (.cells cur rB.t (0, 0)) := ⟨_, rfl⟩
  have hb1 : Below w.heap.size w W1 := by rw [hW1]; exact (Below.refl _ _).drew.alloc (Nat.le_refl _) _
  have hg1 : W1.heap[w.heap.size]? = some (.cells cur rB.t (0, 0)) := by rw [hW1]; exact heap_alloc_new w.drew _
  have hkz : ((k : Nat) : Int) = (l.length : Int) + (M.length : Int) - (i : Int) := by omega
  obtain ⟨T, hT⟩ : ∃ T, T = i + k := ⟨_, rfl⟩
  rw [hkz] at hz
  rw [← hT, ← hW1] at hz
  have hcp1 : ∀ dc ty, (Builtin.copy_ #[46, 46] ty #[.slice (some ⟨w.heap.size, i * 2, none⟩) (T - i) dc, .slice (some ⟨q, 0, none⟩) M.length cq]).run Tryd.prog W1 = .ok (goInt M.length) (W1.setCells w.heap.size (i * 2) (rB.all M)) := fun dc ty =>
    copy_row rB.kin M (by simp only [Nat.min_def]; split <;> omega) (fun j hj => blk_spare hg1 (by have hj' : j < M.length * 2 := hj; have hcs' : cur.size = G * 2 := hcs; omega)) (fun j u hj => by
      have := (hsrc.below hb1).news 0 j u (by simpa using hj)
      simpa using this) ty
  obtain ⟨W2, hW2⟩ : ∃ W2, W2 = W1.setCells w.heap.size (i * 2) (rB.all M) := ⟨_, rfl⟩
  have hg2 : W2.heap[w.heap.size]? = some (.cells (wrs cur (i * 2) (rB.all M)) rB.t (0, 0)) := by rw [hW2]; exact heap_sets _ W1 _ _ cur _ hg1
  have hk2 : Keeps W1 W2 (fun b => b = w.heap.size) := by rw [hW2]; exact Keeps.sets _ _ _ _
  have hr2 : Row rB B W2 (.slice (some ⟨g, 0, none⟩) l.length c) l := hk2.row (hown.below hb1) (fun g' hg' e => by simp [Value.ownBlock] at hg'; omega)
  have hcp2 : ∀ dc sc ty, (Builtin.copy_ #[46, 46] ty #[.slice (some ⟨w.heap.size, (i + M.length) * 2, none⟩) (T - (i + M.length)) dc, .slice (some ⟨g, i * 2, none⟩) (l.length - i) sc]).run Tryd.prog W2.drew = .ok (goInt (l.drop i).length) (W2.drew.setCells w.heap.size ((i + M.length) * 2) (rB.all (l.drop i))) := fun dc sc ty =>
    copy_row rB.kin (l.drop i) (by simp only [Nat.min_def, List.length_drop]; split <;> omega) (fun j hj => blk_spare (w := W2.drew) hg2 (by have hj' : j < (l.drop i).length * 2 := hj; have hcs' : cur.size = G * 2 := hcs; rw [List.length_drop] at hj'; rw [wrs_size]; omega)) (fun j u hj => hr2.news i j u hj) ty
  have X : Hid (TurnPrB w B (.slice (some ⟨g, 0, none⟩) l.length c) (l.take i ++ (M ++ l.drop i)) (.returned (.slice (some ⟨w.heap.size, 0, none⟩) T G)) (W2.drew.setCells w.heap.size ((i + M.length) * 2) (rB.all (l.drop i)))) := by
    refine ⟨_, rfl, ?_, ?_, fun g' hg' => Or.inr (by simp [Value.ownBlock] at hg'; omega)⟩
    · have h1 := Row.fresh (R := rB) (l := l) (w := W1) (j := i) hB hg1 hG2 hcs i M (by omega) (by omega) hold (nn := T) (by omega)
      rw [show rB.n = 2 from rfl, ← hW2] at h1
      refine h1.same fun g' hg' => ?_
      simp [Value.ownBlock] at hg'
      subst hg'
      have a1 := heap_sets (rB.all (l.drop i)) W2 w.heap.size ((i + M.length) * 2) _ _ hg2
      have a2 := heap_sets (rB.all (l.drop i)) W2.drew w.heap.size ((i + M.length) * 2) _ _ hg2
      exact a2.trans a1.symm
    · have k3 : Keeps W1 (W2.drew.setCells w.heap.size ((i + M.length) * 2) (rB.all (l.drop i))) (fun b => b = w.heap.size) := hk2.trans (keeps_drew (Keeps.sets _ W2.drew _ _)) fun _ _ h => h
      exact Keeps.of_below (hb1.trans (k3.below (by rw [hW1]; simp) fun b _ e => by omega)) _
  have hcp1' : Hid (∀ dc ty, (Builtin.copy_ #[46, 46] ty #[.slice (some ⟨w.heap.size, i * 2, none⟩) (T - i) dc, .slice (some ⟨q, 0, none⟩) M.length cq]).run Tryd.prog W1 = .ok (goInt M.length) W2) := by rw [hW2]; exact hcp1
  have hcp2' : Hid (∀ dc sc ty, (Builtin.copy_ #[46, 46] ty #[.slice (some ⟨w.heap.size, (i + M.length) * 2, none⟩) (T - (i + M.length)) dc, .slice (some ⟨g, i * 2, none⟩) (l.length - i) sc]).run Tryd.prog W2.drew = .ok (goInt (l.drop i).length) (W2.drew.setCells w.heap.size ((i + M.length) * 2) (rB.all (l.drop i)))) := hcp2
  have hZ : Hid (∀ ty, (Builtin.append_ #[46, 3] ty #[.slice (some ⟨g, 0, none⟩) i c, .int .i64 ((l.length : Int) + (M.length : Int) - (i : Int))]).run Tryd.prog w = .ok (.slice (some ⟨w.heap.size, 0, none⟩) T G) W1) := hz
  have hq1 : ¬ (G = i) := by omega
  have hq2 : ¬ (G = i + M.length) := by omega
  have hq3 : i + M.length ≤ G := by omega
  have hq4 : i ≤ T := by omega
  have hq5 : i + M.length ≤ T := by omega
  have hq6 : T ≤ G := by omega
  have hw1 : IntKind.i64.wrap ((i : Int) + (M.length : Int)) = (i : Int) + (M.length : Int) := by rw [IntKind.wrap_i64]; omega
  have hb1' : (0 : Int) ≤ (i : Int) + (M.length : Int) := by omega
  have hb2' : (i : Int) + (M.length : Int) ≤ (T : Int) := by omega
  have hb3' : (i : Int) ≤ (l.length : Int) := by omega
  have htn : ((i : Int) + (M.length : Int)).toNat = i + M.length := by omega
  have hG3 : G ≤ 9223372036854775807 := by unfold maxLen at hG2; omega
  clear hk hkz hT hcp1 hcp2 hz hW1 hW2 hg1 hg2 hk2 hr2 hb1 hown hsrc hc0 hg0 hs0 hold hcs hG2 hcm hlt hltq
  go_enter Tryd.func35, Tryd.ntmps35
  go_wp2_with (first | (at_builtin; refine Lib.wpList_append_run _ rfl _ _ _ _ rfl _ _ rfl rfl _ _ (hZ.out _) ?_) | (refine list_copyR _ rfl _ _ rfl _ _ rfl rfl (hcp1'.out _) ?_))
  go_region_law (refine step_copyR rfl _ _ rfl (.slice (some ⟨w.heap.size, (i + M.length) * 2, none⟩) (T - (i + M.length)) (G - (i + M.length))) (.slice (some ⟨g, i * 2, none⟩) (l.length - i) (c - i)) (by simp [Act.eval, Act.put]) (by simp [Act.eval, Act.put]) (hcp2'.out _ _) ?_)
  go_wp2
  go_ret
  exact X.out

set_option maxRecDepth 100000 in
set_option maxHeartbeats 4000000 in
/-- There is room: in place. -/
theorem insertR_rB {B : Nat} {w : World} {g c q cq : Nat} {l M : List Bk} (hown : Row rB B w (.slice (some ⟨g, 0, none⟩) l.length c) l) (hsrc : Row rB 0 w (.slice (some ⟨q, 0, none⟩) M.length cq) M) (hqg : q ≠ g) (hM : 0 < M.length) (hm : l.length + M.length ≤ 4096)
    (i : Nat) (hi : i < l.length) (hroom : l.length + M.length ≤ c) :
    Calls Tryd.prog 35 #[.slice (some ⟨g, 0, none⟩) l.length c, .int .i64 i, .slice (some ⟨q, 0, none⟩) M.length cq] w (TurnPrB w B (.slice (some ⟨g, 0, none⟩) l.length c) (l.take i ++ (M ++ l.drop i))) := by
  obtain ⟨_, _, hlt, cur0, hg0, hlc, hcm, hs0, hc0⟩ := hown.cur
  obtain ⟨_, _, hltq, _⟩ := hsrc.cur
  have hz1 : ¬ ((M.length : Int) = 0) := by omega
  have hz2 : ¬ ((i : Int) = (l.length : Int)) := by omega
  have hcm' : c ≤ 9223372036854775807 := by unfold maxLen at hcm; omega
  have hci : ¬ (c = i) := by omega
  obtain ⟨kA, hsa⟩ := hsrc.shape (by omega)
  obtain ⟨kB, hsb⟩ := hown.shape (by omega)
  have hsz : ∀ w, (sizeOf 48).run Tryd.prog w = .ok 2 w := fun w => by
    obtain ⟨i0, z0, hi0, hz0, hz1, _⟩ := rB.kin.inf
    have hi0' : Tryd.prog.info? 48 = some i0 := hi0
    have hz1' : i0.size = 2 := hz1
    simp [sizeOf, typeInfo, hi0', hz1']
  have hov : ∀ lb cb, (callFunc 44 #[.slice (some ⟨q, 0, none⟩) M.length cq, .slice (some ⟨g, (i + M.length) * 2, none⟩) lb cb]).run Tryd.prog w = .ok (.value (.bool false)) w := fun lb cb => by
    rw [run_callFunc_extern Tryd.func44 (by kernel_rfl) (by kernel_rfl) (by kernel_rfl) (e := Extern.SlicesOverlaps.overlaps #[46, 46] #[4]) (by kernel_rfl),
      Lib.run_overlaps_apart w 46 4 48 Tryd.underlying46 2 hsz ⟨q, 0, none⟩ ⟨g, (i + M.length) * 2, none⟩ M.length cq lb cb hqg _ _ _ _ hsa hsb (by omega) (hsrc.frozen 0) (hsrc.frozen _)]
    rfl
  obtain ⟨W1, hW1⟩ : ∃ W1, W1 = w.drew.setCells g ((i + M.length) * 2) (rB.all (l.drop i)) := ⟨_, rfl⟩
  have hcp1 : ∀ dc sc ty, (Builtin.copy_ #[46, 46] ty #[.slice (some ⟨g, (i + M.length) * 2, none⟩) (l.length + M.length - (i + M.length)) dc, .slice (some ⟨g, i * 2, none⟩) (l.length + M.length - i) sc]).run Tryd.prog w.drew = .ok (goInt (l.drop i).length) W1 := fun dc sc ty => by
    rw [hW1]
    exact copy_row (W := w.drew) rB.kin (l.drop i) (by simp only [Nat.min_def, List.length_drop]; split <;> omega) (fun j hj => (hown.below (Below.refl _ _).drew).spare ((i + M.length) * 2 + j) (by have hj' : j < (l.drop i).length * 2 := hj; rw [List.length_drop] at hj'; show _ < c * 2; omega)) (fun j u hj => hown.news i j u hj) ty
  have hk1 : Keeps w W1 (fun b => b = g) := by rw [hW1]; exact keeps_drew (Keeps.sets _ _ _ _)
  have hg1 : W1.heap[g]? = some (.cells (wrs cur0 ((i + M.length) * 2) (rB.all (l.drop i))) rB.t (0, 0)) := by rw [hW1]; exact heap_sets _ w.drew _ _ cur0 _ hg0
  have hcp2 : ∀ dc ty, (Builtin.copy_ #[46, 46] ty #[.slice (some ⟨g, i * 2, none⟩) (l.length + M.length - i) dc, .slice (some ⟨q, 0, none⟩) M.length cq]).run Tryd.prog W1 = .ok (goInt M.length) (W1.setCells g (i * 2) (rB.all M)) := fun dc ty =>
    copy_row rB.kin M (by simp only [Nat.min_def]; split <;> omega) (fun j hj => blk_spare hg1 (by have hj' : j < M.length * 2 := hj; have hcs' : cur0.size = c * 2 := hs0; rw [wrs_size]; omega)) (fun j u hj => by
      have := (hk1.row hsrc (fun g' hg' e => by simp [Value.ownBlock] at hg'; omega)).news 0 j u (by simpa using hj)
      simpa using this) ty
  have X : Hid (TurnPrB w B (.slice (some ⟨g, 0, none⟩) l.length c) (l.take i ++ (M ++ l.drop i)) (.returned (.slice (some ⟨g, 0, none⟩) (l.length + M.length) c)) (W1.setCells g (i * 2) (rB.all M))) := by
    refine ⟨_, rfl, ?_, keeps_own (hk1.trans (Keeps.sets _ W1 _ _) fun _ _ h => h), fun g' hg' => Or.inl hg'⟩
    rw [hW1]
    exact Row.repl (R := rB) (w := w.drew) (hown.below (Below.refl _ _).drew) i i M (by omega) (by omega) (by omega)
  have hcp1' : Hid (∀ dc sc ty, (Builtin.copy_ #[46, 46] ty #[.slice (some ⟨g, (i + M.length) * 2, none⟩) (l.length + M.length - (i + M.length)) dc, .slice (some ⟨g, i * 2, none⟩) (l.length + M.length - i) sc]).run Tryd.prog w.drew = .ok (goInt (l.drop i).length) W1) := hcp1
  have hcp2' : Hid (∀ dc ty, (Builtin.copy_ #[46, 46] ty #[.slice (some ⟨g, i * 2, none⟩) (l.length + M.length - i) dc, .slice (some ⟨q, 0, none⟩) M.length cq]).run Tryd.prog W1 = .ok (goInt M.length) (W1.setCells g (i * 2) (rB.all M))) := hcp2
  have hw1 : IntKind.i64.wrap ((i : Int) + (M.length : Int)) = (i : Int) + (M.length : Int) := by rw [IntKind.wrap_i64]; omega
  have hb1 : (0 : Int) ≤ (i : Int) + (M.length : Int) := by omega
  have hin : i ≤ l.length := by omega
  have htn : ((i : Int) + (M.length : Int)).toNat = i + M.length := by omega
  have hb2 : ¬ (c = i + M.length) := by omega
  have hb3 : (i : Int) ≤ (l.length : Int) + (M.length : Int) := by omega
  have hb4 : ¬ (c = i) := by omega
  clear hcp1 hcp2 hW1 hg1 hk1 hown hsrc hc0 hg0 hs0 hcm hlt hltq hsa hsb hsz
  go_enter Tryd.func35, Tryd.ntmps35
  go_wp2_with (simp only [hov])
  go_region_law (refine step_copyR rfl _ _ rfl (.slice (some ⟨g, (i + M.length) * 2, none⟩) (l.length + M.length - (i + M.length)) (c - (i + M.length))) (.slice (some ⟨g, i * 2, none⟩) (l.length + M.length - i) (c - i)) (by simp [Act.eval, Act.put]) (by simp [Act.eval, Act.put]) (hcp1'.out _ _) ?_)
  go_wp2_with (refine list_copyR _ rfl _ _ rfl _ _ rfl rfl (hcp2'.out _) ?_)
  go_ret
  exact X.out

/-- Insert, all its ways. -/
theorem insert_rB {B : Nat} {w : World} {v : Value} {q cq : Nat} {l M : List Bk} (hown : Row rB B w v l) (hsrc : Row rB 0 w (.slice (some ⟨q, 0, none⟩) M.length cq) M) (hq : v.ownBlock ≠ some q) (hM : 0 < M.length) (hm : l.length + M.length ≤ 4096) (hB : B ≤ w.heap.size)
    (i : Nat) (hi : i ≤ l.length) :
    Calls Tryd.prog 35 #[v, .int .i64 i, .slice (some ⟨q, 0, none⟩) M.length cq] w (TurnPrB w B v (l.take i ++ (M ++ l.drop i))) := by
  by_cases h : i = l.length
  · subst h
    have := insertE_rB hown hsrc hM hm hB
    simpa using this
  · rcases hown.cases with ⟨rfl, rfl⟩ | ⟨g, c, cur, rfl, _, _, _, h1, h2, _⟩
    · simp at hi
      simp [hi] at h
    · rcases Nat.lt_or_ge c (l.length + M.length) with hc | hc
      · exact insertN_rB hown hsrc hM hm hB i (by omega) hc
      · exact insertR_rB hown hsrc (fun e => hq (by rw [e]; rfl)) hM hm i (by omega) hc
end Go.Proofs.YtbpihdeinkopfaaDoor
