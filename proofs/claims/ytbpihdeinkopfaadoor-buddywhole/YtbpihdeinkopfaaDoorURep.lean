/- slices.Replace(s, i, i+1, v...) over rows of one kind of record. -/
import Derived.Test.YtbpihdeinkopfaaDoorUIns
namespace Go.Proofs.YtbpihdeinkopfaaDoor
open Go.RowKit

set_option maxRecDepth 100000 in
set_option maxHeartbeats 4000000 in
/-- The last one, by nothing. -/
theorem replaceA0_rB {B : Nat} {w : World} {g c : Nat} {l : List Bk} (hown : Row rB B w (.slice (some ⟨g, 0, none⟩) l.length c) l) (i : Nat) (hi : l.length = i + 1) :
    Calls Tryd.prog 38 #[.slice (some ⟨g, 0, none⟩) l.length c, .int .i64 i, .int .i64 ((i + 1 : Nat) : Int), .slice none 0 0] w (TurnPrB w B (.slice (some ⟨g, 0, none⟩) l.length c) (l.take i)) := by
  obtain ⟨_, _, hlt, cur0, hg0, hlc, hcm, hs0, hc0⟩ := hown.cur
  have hcm' : c ≤ 9223372036854775807 := by unfold maxLen at hcm; omega
  have hci : ¬ (c = i) := by omega
  have hic : i ≤ c := by omega
  have hjc : i + 1 ≤ c := by omega
  have hA := fun ty => run_app0 (P := Tryd.prog) (s := 46) rB.kin w ty g i c hic
  have hh := hown.head i (by omega)
  obtain ⟨vs, hvl, hcl⟩ := run_clearR rB.kin rB.zone w g (i * 2) 1 (c - i) (fun j hj => (hown.spare _ (by
    have hj' : j < 1 * 2 := hj
    show _ < c * 2
    omega)).1) (fun j => hown.frozen j)
  have X : Hid (TurnPrB w B (.slice (some ⟨g, 0, none⟩) l.length c) (l.take i) (.returned (.slice (some ⟨g, 0, none⟩) i c)) (w.setCells g (i * 2) vs)) :=
    ⟨_, rfl, hh.tail _ vs (by show _ * 2 ≤ _; simp; omega), keeps_own (Keeps.sets vs w g _), fun g' hg' => Or.inl hg'⟩
  have HA : Hid (∀ ty, (Builtin.append_ #[46, 46] ty #[.slice (some ⟨g, 0, none⟩) i c, .slice none 0 0]).run Tryd.prog w = .ok (.slice (some ⟨g, 0, none⟩) i c) w) := hA
  clear hA hh hown hg0 hs0 hc0 hcm hvl
  rw [hi] at X ⊢
  have hq1 : (i : Int) < (i : Int) + 1 := by omega
  clear hi hlc
  go_enter Tryd.func38, Tryd.ntmps38
  go_wp2_with (at_builtin; refine Lib.wpList_append_run _ rfl _ _ _ _ rfl _ _ rfl rfl _ _ (HA.out _) ?_)
  go_ret
  exact X.out

set_option maxRecDepth 100000 in
set_option maxHeartbeats 4000000 in
/-- The last one, by some. -/
theorem replaceA_rB {B : Nat} {w : World} {g c q cq : Nat} {l M : List Bk} (hown : Row rB B w (.slice (some ⟨g, 0, none⟩) l.length c) l) (hsrc : Row rB 0 w (.slice (some ⟨q, 0, none⟩) M.length cq) M) (hM : 0 < M.length) (hm : l.length + M.length ≤ 4096) (hB : B ≤ w.heap.size)
    (i : Nat) (hi : l.length = i + 1) :
    Calls Tryd.prog 38 #[.slice (some ⟨g, 0, none⟩) l.length c, .int .i64 i, .int .i64 ((i + 1 : Nat) : Int), .slice (some ⟨q, 0, none⟩) M.length cq] w (TurnPrB w B (.slice (some ⟨g, 0, none⟩) l.length c) (l.take i ++ M)) := by
  obtain ⟨_, _, hlt, cur0, hg0, hlc, hcm, hs0, hc0⟩ := hown.cur
  have hcm' : c ≤ 9223372036854775807 := by unfold maxLen at hcm; omega
  have hci : ¬ (c = i) := by omega
  have hic : i ≤ c := by omega
  have hjc : i + 1 ≤ c := by omega
  have HS : Hid (Seen rB w (some ⟨q, 0, none⟩) cq M) := hsrc.seen.2
  have HH : Hid (Row rB B w (.slice (some ⟨g, 0, none⟩) i c) (l.take i)) := hown.head i (by omega)
  have htl : (l.take i).length = i := by simp; omega
  have hlen : (l.take i ++ M).length = i + M.length := by rw [List.length_append, htl]
  have HL : Hid ((l.take i ++ M).length = i + M.length) := hlen
  have hb : Hid (i + M.length ≤ 4096) := by show _ ≤ _; omega
  clear hown hsrc hg0 hs0 hc0 hcm htl hlen
  rw [hi]
  have hqq : ¬ ((i : Int) + (M.length : Int) < (i : Int) + 1) := by omega
  clear hi hlc
  go_enter Tryd.func38, Tryd.ntmps38
  go_wp2_with (at_builtin; refine list_app' rB.kin rfl _ _ rfl B _ (l.take i) M rfl HH.out (some ⟨q, 0, none⟩) M.length cq rfl rfl HS.out ?c3 ?c4 hB ?_)
  case c3 => have := hb.out; have := Nat.min_le_left i l.length; unfold maxLen; omega
  case c4 => have := hb.out; have := Nat.min_le_left i l.length; show _ * 16 ≤ _; omega
  intro v' w1 ho hgrow hw
  obtain ⟨ao', c', rfl⟩ := ho.form
  rw [HL.out] at ho hw ⊢
  have HR : Hid (Row rB B w1 (.slice ao' (i + M.length) c') (l.take i ++ M)) := ho
  have HG : Hid (w.grownBy w1 (Value.slice (some ⟨g, 0, none⟩) i c).ownBlock) := hgrow
  have HW : Hid (∀ g', (Value.slice ao' (i + M.length) c').ownBlock = some g' → _ ∨ w.heap.size ≤ g') := hw
  clear ho hgrow hw
  go_wp2
  go_ret
  exact ⟨_, rfl, HR.out, (Keeps.of_grown HG.out).mono fun _ _ e => e, HW.out⟩

theorem keeps_drewN {w w' : World} {n : Nat} {s : Nat → Prop} (h : Keeps (w.drewN n) w' s) : Keeps w w' s := ⟨h.os, h.tape, h.output, h.size, h.block⟩
theorem turn_drewN {B : Nat} {w w' : World} {n : Nat} {v : Value} {l : List Bk} {e : Ending} (h : TurnPrB (w.drewN n) B v l e w') : TurnPrB w B v l e w' := by
  obtain ⟨v', h1, h2, h3, h4⟩ := h
  exact ⟨v', h1, h2, keeps_drewN h3, h4⟩

/-- What 'No room' needs: the new row, and the two copies. -/
theorem prepN_rB {B : Nat} {w : World} {g c q cq : Nat} {l M : List Bk} (hown : Row rB B w (.slice (some ⟨g, 0, none⟩) l.length c) l) (hsrc : Row rB 0 w (.slice (some ⟨q, 0, none⟩) M.length cq) M) (hm : l.length + M.length ≤ 4096) (hB : B ≤ w.heap.size)
    (i j r : Nat) (hi : l.length = j + r) (hij : i ≤ j) (hr : 0 < r) (hroom : c < i + M.length + r) :
    ∃ (G : Nat) (W1 W2 : World), i + M.length + r ≤ G ∧ G ≤ maxLen ∧
      (∀ ty, (Builtin.append_ #[46, 3] ty #[.slice (some ⟨g, 0, none⟩) i c, .int .i64 ((M.length + r : Nat) : Int)]).run Tryd.prog w = .ok (.slice (some ⟨w.heap.size, 0, none⟩) (i + (M.length + r)) G) W1) ∧
      (∀ dc ty, (Builtin.copy_ #[46, 46] ty #[.slice (some ⟨w.heap.size, i * 2, none⟩) (M.length + r) dc, .slice (some ⟨q, 0, none⟩) M.length cq]).run Tryd.prog W1 = .ok (goInt M.length) W2) ∧
      (∀ dc sc ty, (Builtin.copy_ #[46, 46] ty #[.slice (some ⟨w.heap.size, (i + M.length) * 2, none⟩) r dc, .slice (some ⟨g, j * 2, none⟩) r sc]).run Tryd.prog W2.drew = .ok (goInt (l.drop j).length) (W2.drew.setCells w.heap.size ((i + M.length) * 2) (rB.all (l.drop j)))) ∧
      TurnPrB w B (.slice (some ⟨g, 0, none⟩) l.length c) (l.take i ++ (M ++ l.drop j)) (.returned (.slice (some ⟨w.heap.size, 0, none⟩) (i + (M.length + r)) G)) (W2.drew.setCells w.heap.size ((i + M.length) * 2) (rB.all (l.drop j))) := by
  obtain ⟨_, _, hlt, cur0, hg0, hlc, hcm, hs0, hc0⟩ := hown.cur
  obtain ⟨_, _, hltq, _⟩ := hsrc.cur
  obtain ⟨G, cur, hG1, hG2, hcs, hold, hz⟩ := run_zerosR rB.kin 3 Tryd.underlying3 w g i c (M.length + r) (l.take i) (by simp; omega) (by omega) (by omega) (by show _ * 16 ≤ _; omega) (by unfold maxLen; omega) (fun j u hj => by
    have h0 := hown.news 0
    rw [List.drop_zero] at h0
    have h1 := h0 j u (by
      rw [← List.take_append_drop i l, Rec.all_append, List.getElem?_append_left (List.getElem?_eq_some_iff.1 hj).1]
      exact hj)
    simpa using h1)
  obtain ⟨W1, hW1⟩ : ∃ W1, W1 = w.drew.alloc (.cells cur rB.t (0, 0)) := ⟨_, rfl⟩
  have hb1 : Below w.heap.size w W1 := by rw [hW1]; exact (Below.refl _ _).drew.alloc (Nat.le_refl _) _
  have hg1 : W1.heap[w.heap.size]? = some (.cells cur rB.t (0, 0)) := by rw [hW1]; exact heap_alloc_new w.drew _
  rw [← hW1] at hz
  have hcp1 : ∀ dc ty, (Builtin.copy_ #[46, 46] ty #[.slice (some ⟨w.heap.size, i * 2, none⟩) (M.length + r) dc, .slice (some ⟨q, 0, none⟩) M.length cq]).run Tryd.prog W1 = .ok (goInt M.length) (W1.setCells w.heap.size (i * 2) (rB.all M)) := fun dc ty =>
    copy_row rB.kin M (by simp only [Nat.min_def]; split <;> omega) (fun j hj => blk_spare hg1 (by have hj' : j < M.length * 2 := hj; have hcs' : cur.size = G * 2 := hcs; omega)) (fun j u hj => by
      have := (hsrc.below hb1).news 0 j u (by simpa using hj)
      simpa using this) ty
  obtain ⟨W2, hW2⟩ : ∃ W2, W2 = W1.setCells w.heap.size (i * 2) (rB.all M) := ⟨_, rfl⟩
  have hg2 : W2.heap[w.heap.size]? = some (.cells (wrs cur (i * 2) (rB.all M)) rB.t (0, 0)) := by rw [hW2]; exact heap_sets _ W1 _ _ cur _ hg1
  have hk2 : Keeps W1 W2 (fun b => b = w.heap.size) := by rw [hW2]; exact Keeps.sets _ _ _ _
  have hr2 : Row rB B W2 (.slice (some ⟨g, 0, none⟩) l.length c) l := hk2.row (hown.below hb1) (fun g' hg' e => by simp [Value.ownBlock] at hg'; omega)
  rw [← hW2] at hcp1
  refine ⟨G, W1, W2, by omega, hG2, hz, hcp1, fun dc sc ty => copy_row rB.kin (l.drop j) (by simp only [Nat.min_def, List.length_drop]; split <;> omega) (fun k hk => blk_spare (w := W2.drew) hg2 (by have hk' : k < (l.drop j).length * 2 := hk; have hcs' : cur.size = G * 2 := hcs; rw [List.length_drop] at hk'; rw [wrs_size]; omega)) (fun k u hk => hr2.news j k u hk) ty, _, rfl, ?_, ?_, fun g' hg' => Or.inr (by simp [Value.ownBlock] at hg'; omega)⟩
  · have h1 := Row.fresh (R := rB) (l := l) (w := W1) (j := j) hB hg1 hG2 hcs i M (by omega) (by omega) hold (nn := i + (M.length + r)) (by omega)
    rw [show rB.n = 2 from rfl, ← hW2] at h1
    refine h1.same fun g' hg' => ?_
    simp [Value.ownBlock] at hg'
    subst hg'
    have a1 := heap_sets (rB.all (l.drop j)) W2 w.heap.size ((i + M.length) * 2) _ _ hg2
    have a2 := heap_sets (rB.all (l.drop j)) W2.drew w.heap.size ((i + M.length) * 2) _ _ hg2
    exact a2.trans a1.symm
  · have k3 : Keeps W1 (W2.drew.setCells w.heap.size ((i + M.length) * 2) (rB.all (l.drop j))) (fun b => b = w.heap.size) := hk2.trans (keeps_drew (Keeps.sets _ W2.drew _ _)) fun _ _ h => h
    exact Keeps.of_below (hb1.trans (k3.below (by rw [hW1]; simp) fun b _ e => by omega)) _

set_option maxRecDepth 100000 in
set_option maxHeartbeats 4000000 in
/-- No room: a new row. -/
theorem replaceN_rB {B : Nat} {w : World} {g c q cq : Nat} {l M : List Bk} (hown : Row rB B w (.slice (some ⟨g, 0, none⟩) l.length c) l) (hsrc : Row rB 0 w (.slice (some ⟨q, 0, none⟩) M.length cq) M) (hM : 0 < M.length) (hm : l.length + M.length ≤ 4096) (hB : B ≤ w.heap.size)
    (i r : Nat) (hi : l.length = i + 1 + r) (hr : 0 < r) (hroom : c < i + M.length + r) :
    Calls Tryd.prog 38 #[.slice (some ⟨g, 0, none⟩) l.length c, .int .i64 i, .int .i64 ((i + 1 : Nat) : Int), .slice (some ⟨q, 0, none⟩) M.length cq] w (TurnPrB w B (.slice (some ⟨g, 0, none⟩) l.length c) (l.take i ++ (M ++ l.drop (i + 1)))) := by
  obtain ⟨_, _, hlt, cur0, hg0, hlc, hcm, hs0, hc0⟩ := hown.cur
  have hcm' : c ≤ 9223372036854775807 := by unfold maxLen at hcm; omega
  have HP := fun n => prepN_rB (w := w.drewN n) (hown.below (below_drewN (Below.refl _ _) n)) (hsrc.below (below_drewN (Below.refl _ _) n)) hm hB i (i + 1) r hi (by omega) hr hroom
  have hic : i ≤ c := by omega
  have hci : ¬ (c = i) := by omega
  have hcj : ¬ (c = i + 1) := by omega
  have hjc : i + 1 ≤ c := by omega
  have hmm : i + M.length + r ≤ 4096 := by omega
  rw [hi] at HP ⊢
  generalize l.drop (i + 1) = l2 at *
  generalize l.take i = l1 at *
  obtain ⟨m, hme⟩ : ∃ m, m = M.length := ⟨_, rfl⟩
  rw [← hme] at HP hM hm hmm hroom ⊢
  have HP' : Hid _ := HP
  have hnj : ¬ ((i : Int) + 1 = (i : Int) + 1 + (r : Int)) := by omega
  have hrz : (c : Int) < (i : Int) + (m : Int) + (r : Int) := by omega
  have hsub : (i : Int) + (m : Int) + (r : Int) - (i : Int) = ((m + r : Nat) : Int) := by omega
  clear hown hsrc hc0 hg0 hs0 hcm hlt hlc hi hm HP hme
  go_enter Tryd.func38, Tryd.ntmps38
  go_wp2
  go_quiet (fail)
  obtain ⟨G, W1, W2, hG1, hG2, hz, hc1, hc2, hX⟩ := HP'.out nq
  have hX' := turn_drewN hX
  obtain ⟨T, hT⟩ : ∃ T, T = i + (m + r) := ⟨_, rfl⟩
  obtain ⟨b, hb⟩ : ∃ b, b = (w.drewN nq).heap.size := ⟨_, rfl⟩
  rw [← hT, ← hb] at hX' hz
  rw [← hb, show m + r = T - i by omega] at hc1
  rw [← hb] at hc2
  have HZ : Hid (∀ ty, (Builtin.append_ #[46, 3] ty #[.slice (some ⟨g, 0, none⟩) i c, .int .i64 ((i : Int) + (m : Int) + (r : Int) - (i : Int))]).run Tryd.prog (w.drewN nq) = .ok (.slice (some ⟨b, 0, none⟩) T G) W1) := by rw [hsub]; exact hz
  have HC1 : Hid (∀ dc ty, (Builtin.copy_ #[46, 46] ty #[.slice (some ⟨b, i * 2, none⟩) (T - i) dc, .slice (some ⟨q, 0, none⟩) m cq]).run Tryd.prog W1 = .ok (goInt m) W2) := hc1
  have HC2 : Hid (∀ dc sc ty, (Builtin.copy_ #[46, 46] ty #[.slice (some ⟨b, (i + m) * 2, none⟩) (T - (i + m)) dc, .slice (some ⟨g, (i + 1) * 2, none⟩) r sc]).run Tryd.prog W2.drew = .ok (goInt l2.length) (W2.drew.setCells b ((i + m) * 2) (rB.all l2))) := by rw [show T - (i + m) = r by omega]; exact hc2
  have HX : Hid (TurnPrB w B (.slice (some ⟨g, 0, none⟩) (i + 1 + r) c) (l1 ++ (M ++ l2)) (.returned (.slice (some ⟨b, 0, none⟩) T G)) (W2.drew.setCells b ((i + m) * 2) (rB.all l2))) := hX'
  have hq1 : ¬ (G = i) := by omega
  have hq2 : ¬ (G = i + m) := by omega
  have hq4 : i ≤ T := by omega
  have hq5 : i + m ≤ T := by omega
  have hq6 : T ≤ G := by omega
  have hw1 : IntKind.i64.wrap ((i : Int) + (m : Int)) = (i : Int) + (m : Int) := by rw [IntKind.wrap_i64]; omega
  have hb1' : (0 : Int) ≤ (i : Int) + (m : Int) := by omega
  have hb2' : (i : Int) + (m : Int) ≤ (T : Int) := by omega
  have htn : ((i : Int) + (m : Int)).toNat = i + m := by omega
  have hb6 : (0 : Int) ≤ (i : Int) + 1 := by omega
  have hb7 : (i : Int) + 1 ≤ (i : Int) + 1 + (r : Int) := by omega
  have hb8 : ((i : Int) + 1).toNat = i + 1 := by omega
  have hb9 : i + 1 + r - (i + 1) = r := by omega
  have hG3 : G ≤ 9223372036854775807 := by unfold maxLen at hG2; omega
  clear hX hX' hz hc1 hc2 hT hb hG1 hG2 HP' hsub
  generalize w.drewN nq = w0 at *
  go_wp2_with (first | (at_builtin; refine Lib.wpList_append_run _ rfl _ _ _ _ rfl _ _ rfl rfl _ _ (HZ.out _) ?_) | (refine list_copyR _ rfl _ _ rfl _ _ rfl rfl (HC1.out _) ?_))
  go_region_law (refine step_copyR rfl _ _ rfl (.slice (some ⟨b, (i + m) * 2, none⟩) (T - (i + m)) (G - (i + m))) (.slice (some ⟨g, (i + 1) * 2, none⟩) r (c - (i + 1))) (by simp [Act.eval, Act.put]) (by simp [Act.eval, Act.put]) (HC2.out _ _) ?_)
  go_wp2
  go_ret
  exact HX.out

/-- What 'in place, what is new being no longer' needs. -/
theorem prepC_rB {B : Nat} {w : World} {g c : Nat} {l M : List Bk} (hown : Row rB B w (.slice (some ⟨g, 0, none⟩) l.length c) l)
    (i r : Nat) (hi : l.length = i + 1 + r) (hr : 0 < r) (hM : M.length ≤ 1) (cc o' : Nat) (ho' : M.length = 1 ∨ o' = (i + M.length + r) * 2) :
    ∃ (W2 W3 : World),
      (∀ dc sc ty, (Builtin.copy_ #[46, 46] ty #[.slice (some ⟨g, (i + M.length) * 2, none⟩) r dc, .slice (some ⟨g, (i + 1) * 2, none⟩) r sc]).run Tryd.prog (w.setCells g (i * 2) (rB.all M)).drew = .ok (goInt (l.drop (i + 1)).length) W2) ∧
      (∀ ty, (Builtin.clear_ #[46] ty #[.slice (some ⟨g, o', none⟩) (1 - M.length) cc]).run Tryd.prog W2 = .ok (.tuple #[]) W3) ∧
      TurnPrB w B (.slice (some ⟨g, 0, none⟩) l.length c) (l.take i ++ (M ++ l.drop (i + 1))) (.returned (.slice (some ⟨g, 0, none⟩) (i + M.length + r) c)) W3 := by
  obtain ⟨_, _, hlt, cur0, hg0, hlc, hcm, hs0, hc0⟩ := hown.cur
  have hs0' : cur0.size = c * 2 := hs0
  obtain ⟨W1, hW1⟩ : ∃ W1, W1 = w.setCells g (i * 2) (rB.all M) := ⟨_, rfl⟩
  have hk1 : Keeps w W1 (fun b => b = g) := by rw [hW1]; exact Keeps.sets _ _ _ _
  have hg1 : W1.heap[g]? = some (.cells (wrs cur0 (i * 2) (rB.all M)) rB.t (0, 0)) := by rw [hW1]; exact heap_sets _ w _ _ cur0 _ hg0
  have hsrc : ∀ (j : Nat) (u : Value), (rB.all (l.drop (i + 1)))[j]? = some u → W1.cell? ⟨g, (i + 1) * 2 + j, none⟩ = some u := by
    intro j u hj
    have h0 := hown.news (i + 1) j u hj
    rw [cell_of_row w g _ cur0 _ _ hg0] at h0
    have hal : (rB.all M).length = M.length * 2 := rB.all_len M
    rw [cell_of_row W1 g _ _ _ _ hg1, wrs_out _ _ _ _ (Or.inr (by rw [hal]; omega))]
    exact h0
  obtain ⟨W2, hW2⟩ : ∃ W2, W2 = W1.drew.setCells g ((i + M.length) * 2) (rB.all (l.drop (i + 1))) := ⟨_, rfl⟩
  have hk2 : Keeps W1 W2 (fun b => b = g) := by rw [hW2]; exact keeps_drew (Keeps.sets _ _ _ _)
  have hr2 : Row rB B W2 (.slice (some ⟨g, 0, none⟩) (i + M.length + r) c) (l.take i ++ (M ++ l.drop (i + 1))) := by
    have h1 := hown.repl' i (i + 1) M (by omega) (by omega) (nn := i + M.length + r) (by omega)
    rw [show rB.n = 2 from rfl, ← hW1] at h1
    refine h1.same fun g' hg' => ?_
    simp [Value.ownBlock] at hg'
    subst hg'
    rw [hW2]
    have a1 := heap_sets (rB.all (l.drop (i + 1))) W1 g ((i + M.length) * 2) _ _ hg1
    have a2 := heap_sets (rB.all (l.drop (i + 1))) W1.drew g ((i + M.length) * 2) _ _ hg1
    exact a2.trans a1.symm
  have hl2 := len_repl l M i (i + 1) (by omega)
  obtain ⟨vs, hvl, hcl⟩ := run_clearR rB.kin rB.zone W2 g o' (1 - M.length) cc (fun j hj => (hr2.spare _ (by
    have hj' : j < (1 - M.length) * 2 := hj
    show _ < c * 2
    rcases ho' with h | h <;> omega)).1) (fun j => hr2.frozen j)
  have hvl' : vs.length = (1 - M.length) * 2 := hvl
  refine ⟨W2, W2.setCells g o' vs, fun dc sc ty => ?_, hcl, _, rfl, ?_, keeps_own ((hk1.trans hk2 fun _ _ h => h).trans (Keeps.sets vs W2 g _) fun _ _ h => h), fun g' hg' => Or.inl hg'⟩
  · rw [hW2, ← hW1]
    exact copy_row (W := W1.drew) rB.kin (l.drop (i + 1)) (by simp only [Nat.min_def, List.length_drop]; split <;> omega) (fun k hk => blk_spare (w := W1.drew) hg1 (by have hk' : k < (l.drop (i + 1)).length * 2 := hk; rw [List.length_drop] at hk'; rw [wrs_size]; omega)) (fun k u hk => hsrc k u hk) ty
  · rcases ho' with h | h
    · have h0 : vs = [] := List.eq_nil_of_length_eq_zero (by omega)
      rw [h0]
      exact hr2
    · exact hr2.tail _ vs (by rw [hl2]; show _ * 2 ≤ _; omega)

set_option maxRecDepth 100000 in
set_option maxHeartbeats 4000000 in
/-- In place, by nothing. -/
theorem replaceC0_rB {B : Nat} {w : World} {g c : Nat} {l : List Bk} (hown : Row rB B w (.slice (some ⟨g, 0, none⟩) l.length c) l) (hm : l.length ≤ 4096)
    (i r : Nat) (hi : l.length = i + 1 + r) (hr : 0 < r) :
    Calls Tryd.prog 38 #[.slice (some ⟨g, 0, none⟩) l.length c, .int .i64 i, .int .i64 ((i + 1 : Nat) : Int), .slice none 0 0] w (TurnPrB w B (.slice (some ⟨g, 0, none⟩) l.length c) (l.take i ++ l.drop (i + 1))) := by
  obtain ⟨_, _, hlt, cur0, hg0, hlc, hcm, hs0, hc0⟩ := hown.cur
  have hcm' : c ≤ 9223372036854775807 := by unfold maxLen at hcm; omega
  have HP := fun n => prepC_rB (w := w.drewN n) (M := []) (hown.below (below_drewN (Below.refl _ _) n)) i r hi hr (by simp) (c - (i + r)) ((i + r) * 2) (Or.inr (by simp))
  have hC0 := fun w dLen dc => run_copy0 (P := Tryd.prog) (s := 46) rB.kin w 3 ⟨g, i * 2, none⟩ dLen dc
  have hic : i ≤ c := by omega
  have hci : ¬ (c = i) := by omega
  have hcj : ¬ (c = i + 1) := by omega
  have hct : ¬ (c = i + r) := by omega
  have hjc : i + 1 ≤ c := by omega
  have htc : i + r ≤ c := by omega
  have hmm : i + r ≤ 4096 := by omega
  rw [hi] at HP ⊢
  generalize l.drop (i + 1) = l2 at *
  generalize l.take i = l1 at *
  simp only [List.length_nil, Nat.add_zero, List.nil_append, Nat.sub_zero] at HP
  have HP' : Hid _ := HP
  have hnj : ¬ ((i : Int) + 1 = (i : Int) + 1 + (r : Int)) := by omega
  have hrz : ¬ ((c : Int) < (i : Int) + (r : Int)) := by omega
  clear hown hc0 hg0 hs0 hcm hlt hlc hi hm HP
  go_enter Tryd.func38, Tryd.ntmps38
  go_wp2
  go_quiet (fail)
  obtain ⟨W2, W3, hc2, hcl, hX⟩ := HP'.out nq
  have hX' := turn_drewN hX
  have HX : Hid (TurnPrB w B (.slice (some ⟨g, 0, none⟩) (i + 1 + r) c) (l1 ++ l2) (.returned (.slice (some ⟨g, 0, none⟩) (i + r) c)) W3) := hX'
  have HC2 : Hid (∀ dc sc ty, (Builtin.copy_ #[46, 46] ty #[.slice (some ⟨g, i * 2, none⟩) r dc, .slice (some ⟨g, (i + 1) * 2, none⟩) r sc]).run Tryd.prog (w.drewN nq).drew = .ok (goInt l2.length) W2) := hc2
  clear hX hX' hc2 HP'
  generalize w.drewN nq = w0 at *
  have hb6 : (0 : Int) ≤ (i : Int) + 1 := by omega
  have hb7 : (i : Int) + 1 ≤ (i : Int) + 1 + (r : Int) := by omega
  have hb8 : ((i : Int) + 1).toNat = i + 1 := by omega
  have hb9 : i + 1 + r - (i + 1) = r := by omega
  have hb10 : i + 1 + r - (i + r) = 1 := by omega
  have hw0 : IntKind.i64.wrap (i : Int) = (i : Int) := by rw [IntKind.wrap_i64]; omega
  have hw3 : (i : Int) ≤ (i : Int) + (r : Int) := by omega
  go_wp2
  go_region_law (refine step_copyR rfl _ _ rfl (.slice (some ⟨g, i * 2, none⟩) r (c - i)) (.slice (some ⟨g, (i + 1) * 2, none⟩) r (c - (i + 1))) (by simp [Act.eval, Act.put]) (by simp [Act.eval, Act.put]) (HC2.out _ _) ?_)
  go_wp2
  go_ret
  exact HX.out

set_option maxRecDepth 100000 in
set_option maxHeartbeats 4000000 in
/-- In place, by one. -/
theorem replaceC1_rB {B : Nat} {w : World} {g c q cq : Nat} {l M : List Bk} (hown : Row rB B w (.slice (some ⟨g, 0, none⟩) l.length c) l) (hsrc : Row rB 0 w (.slice (some ⟨q, 0, none⟩) M.length cq) M) (hM : M.length = 1) (hm : l.length ≤ 4096)
    (i r : Nat) (hi : l.length = i + 1 + r) (hr : 0 < r) (o' : Nat) (ho' : o' = if c = i + 1 + r then 0 else (i + 1 + r) * 2) :
    Calls Tryd.prog 38 #[.slice (some ⟨g, 0, none⟩) l.length c, .int .i64 i, .int .i64 ((i + 1 : Nat) : Int), .slice (some ⟨q, 0, none⟩) M.length cq] w (TurnPrB w B (.slice (some ⟨g, 0, none⟩) l.length c) (l.take i ++ (M ++ l.drop (i + 1)))) := by
  obtain ⟨_, _, hlt, cur0, hg0, hlc, hcm, hs0, hc0⟩ := hown.cur
  have hcm' : c ≤ 9223372036854775807 := by unfold maxLen at hcm; omega
  have HP := fun n => prepC_rB (w := w.drewN n) (M := M) (hown.below (below_drewN (Below.refl _ _) n)) i r hi hr (by omega) (c - (i + 1 + r)) o' (Or.inl hM)
  have hC1 : ∀ n dc ty, (Builtin.copy_ #[46, 46] ty #[.slice (some ⟨g, i * 2, none⟩) (1 + r) dc, .slice (some ⟨q, 0, none⟩) 1 cq]).run Tryd.prog (w.drewN n) = .ok (goInt M.length) ((w.drewN n).setCells g (i * 2) (rB.all M)) := fun n dc ty =>
    copy_row (W := w.drewN n) rB.kin M (by rw [hM]; simp only [Nat.min_def]; split <;> omega) (fun j hj => (hown.below (below_drewN (Below.refl _ _) n)).spare _ (by have hj' : j < M.length * 2 := hj; show i * 2 + j < c * 2; omega)) (fun j u hj => by
      have := (hsrc.below (below_drewN (Below.refl _ _) n)).news 0 j u (by simpa using hj)
      simpa using this) ty
  have hic : i ≤ c := by omega
  have hci : ¬ (c = i) := by omega
  have hcj : ¬ (c = i + 1) := by omega
  have hjc : i + 1 ≤ c := by omega
  have htc : i + 1 + r ≤ c := by omega
  have hmm : i + 1 + r ≤ 4096 := by omega
  rw [hi] at HP ⊢
  rw [hM] at HP hC1 ⊢
  generalize l.drop (i + 1) = l2 at *
  generalize l.take i = l1 at *
  have HP' : Hid _ := HP
  have HC1 : Hid (∀ n dc ty, (Builtin.copy_ #[46, 46] ty #[.slice (some ⟨g, i * 2, none⟩) (1 + r) dc, .slice (some ⟨q, 0, none⟩) 1 cq]).run Tryd.prog (w.drewN n) = .ok (goInt 1) ((w.drewN n).setCells g (i * 2) (rB.all M))) := hC1
  have hnj : ¬ ((i : Int) + 1 = (i : Int) + 1 + (r : Int)) := by omega
  have hrz : ¬ ((c : Int) < (i : Int) + 1 + (r : Int)) := by omega
  clear hown hsrc hc0 hg0 hs0 hcm hlt hlc hi hm HP hM hC1
  by_cases hce : c = i + 1 + r
  · subst hce
    simp only [if_true] at ho'
    subst ho'
    go_enter Tryd.func38, Tryd.ntmps38
    go_wp2
    go_quiet (fail)
    obtain ⟨W2, W3, hc2, hcl, hX⟩ := HP'.out nq
    have hC1 := HC1.out nq
    obtain ⟨W1, hW1⟩ : ∃ W1, W1 = (w.drewN nq).setCells g (i * 2) (rB.all M) := ⟨_, rfl⟩
    rw [← hW1] at hc2 hC1
    have hX' := turn_drewN hX
    simp only [Nat.sub_self] at hcl
    have HX : Hid (TurnPrB w B (.slice (some ⟨g, 0, none⟩) (i + 1 + r) (i + 1 + r)) (l1 ++ (M ++ l2)) (.returned (.slice (some ⟨g, 0, none⟩) (i + 1 + r) (i + 1 + r))) W3) := hX'
    have HCC : Hid (∀ dc ty, (Builtin.copy_ #[46, 46] ty #[.slice (some ⟨g, i * 2, none⟩) (1 + r) dc, .slice (some ⟨q, 0, none⟩) 1 cq]).run Tryd.prog (w.drewN nq) = .ok (goInt 1) W1) := hC1
    have HC2 : Hid (∀ dc sc ty, (Builtin.copy_ #[46, 46] ty #[.slice (some ⟨g, (i + 1) * 2, none⟩) r dc, .slice (some ⟨g, (i + 1) * 2, none⟩) r sc]).run Tryd.prog W1.drew = .ok (goInt l2.length) W2) := hc2
    clear hX hX' hc2 HP' hC1 hW1 HC1
    generalize w.drewN nq = w0 at *
    have hb6 : (0 : Int) ≤ (i : Int) + 1 := by omega
    have hb7 : (i : Int) + 1 ≤ (i : Int) + 1 + (r : Int) := by omega
    have hb8 : ((i : Int) + 1).toNat = i + 1 := by omega
    have hb9 : i + 1 + r - (i + 1) = r := by omega
    have hb10 : i + 1 + r - i = 1 + r := by omega
    have hw0 : IntKind.i64.wrap ((i : Int) + 1) = (i : Int) + 1 := by rw [IntKind.wrap_i64]; omega
    go_wp2_with (refine list_copyR _ rfl _ _ rfl _ _ rfl rfl (HCC.out _) ?_)
    go_region_law (refine step_copyR rfl _ _ rfl (.slice (some ⟨g, (i + 1) * 2, none⟩) r r) (.slice (some ⟨g, (i + 1) * 2, none⟩) r r) (by simp [Act.eval, Act.put]; omega) (by simp [Act.eval, Act.put]; omega) (HC2.out _ _) ?_)
    go_wp2
    go_ret
    exact HX.out
  · rw [if_neg hce] at ho'
    subst ho'
    go_enter Tryd.func38, Tryd.ntmps38
    go_wp2
    go_quiet (fail)
    obtain ⟨W2, W3, hc2, hcl, hX⟩ := HP'.out nq
    have hC1 := HC1.out nq
    obtain ⟨W1, hW1⟩ : ∃ W1, W1 = (w.drewN nq).setCells g (i * 2) (rB.all M) := ⟨_, rfl⟩
    rw [← hW1] at hc2 hC1
    have hX' := turn_drewN hX
    simp only [Nat.sub_self] at hcl
    have HX : Hid (TurnPrB w B (.slice (some ⟨g, 0, none⟩) (i + 1 + r) c) (l1 ++ (M ++ l2)) (.returned (.slice (some ⟨g, 0, none⟩) (i + 1 + r) c)) W3) := hX'
    have HCC : Hid (∀ dc ty, (Builtin.copy_ #[46, 46] ty #[.slice (some ⟨g, i * 2, none⟩) (1 + r) dc, .slice (some ⟨q, 0, none⟩) 1 cq]).run Tryd.prog (w.drewN nq) = .ok (goInt 1) W1) := hC1
    have HC2 : Hid (∀ dc sc ty, (Builtin.copy_ #[46, 46] ty #[.slice (some ⟨g, (i + 1) * 2, none⟩) r dc, .slice (some ⟨g, (i + 1) * 2, none⟩) r sc]).run Tryd.prog W1.drew = .ok (goInt l2.length) W2) := hc2
    clear hX hX' hc2 HP' hC1 hW1 HC1
    generalize w.drewN nq = w0 at *
    have hb6 : (0 : Int) ≤ (i : Int) + 1 := by omega
    have hb7 : (i : Int) + 1 ≤ (i : Int) + 1 + (r : Int) := by omega
    have hb8 : ((i : Int) + 1).toNat = i + 1 := by omega
    have hb9 : i + 1 + r - (i + 1) = r := by omega
    have hb10 : i + 1 + r - i = 1 + r := by omega
    have hw0 : IntKind.i64.wrap ((i : Int) + 1) = (i : Int) + 1 := by rw [IntKind.wrap_i64]; omega
    go_wp2_with (refine list_copyR _ rfl _ _ rfl _ _ rfl rfl (HCC.out _) ?_)
    go_region_law (refine step_copyR rfl _ _ rfl (.slice (some ⟨g, (i + 1) * 2, none⟩) r (c - (i + 1))) (.slice (some ⟨g, (i + 1) * 2, none⟩) r (c - (i + 1))) (by simp [Act.eval, Act.put]) (by simp [Act.eval, Act.put]) (HC2.out _ _) ?_)
    go_wp2
    go_ret
    exact HX.out
end Go.Proofs.YtbpihdeinkopfaaDoor
