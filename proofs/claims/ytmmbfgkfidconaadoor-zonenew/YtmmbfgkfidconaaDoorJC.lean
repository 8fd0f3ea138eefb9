/- Own texts, joined: URep, URepD, UTurn, WPow, UMod, YRow, ULeast, UOps, YSmall, ZMake, YRooms. -/
import Derived.Test.YtmmbfgkfidconaaDoorJB
import Derived.Test.YtmmbfgkfidconaaDoorJA
import Derived.Laws.MakeOwn
/- slices.Replace(s, i, i+1, v...) over rows of one kind of record. -/
namespace Go.Proofs.YtmmbfgkfidconaaDoor
open Go.RowKit

set_option maxRecDepth 100000 in
set_option maxHeartbeats 4000000 in
/-- The last one, by nothing. -/
theorem replaceA0_rB {B : Nat} {w : World} {g c : Nat} {l : List Bk} (hown : Row rB B w (.slice (some ⟨g, 0, none⟩) l.length c) l) (i : Nat) (hi : l.length = i + 1) :
    Calls Tryd.prog 62 #[.slice (some ⟨g, 0, none⟩) l.length c, .int .i64 i, .int .i64 ((i + 1 : Nat) : Int), .slice none 0 0] w (TurnPrB w B (.slice (some ⟨g, 0, none⟩) l.length c) (l.take i)) := by
  obtain ⟨_, _, hlt, cur0, hg0, hlc, hcm, hs0, hc0⟩ := hown.cur
  have hcm' : c ≤ 9223372036854775807 := by unfold maxLen at hcm; omega
  have hci : ¬ (c = i) := by omega
  have hic : i ≤ c := by omega
  have hjc : i + 1 ≤ c := by omega
  have hA := fun ty => run_app0 (P := Tryd.prog) (s := 53) rB.kin w ty g i c hic
  have hh := hown.head i (by omega)
  obtain ⟨vs, hvl, hcl⟩ := run_clearR rB.kin rB.zone w g (i * 2) 1 (c - i) (fun j hj => (hown.spare _ (by
    have hj' : j < 1 * 2 := hj
    show _ < c * 2
    omega)).1) (fun j => hown.frozen j)
  have X : Hid (TurnPrB w B (.slice (some ⟨g, 0, none⟩) l.length c) (l.take i) (.returned (.slice (some ⟨g, 0, none⟩) i c)) (w.setCells g (i * 2) vs)) :=
    ⟨_, rfl, hh.tail _ vs (by show _ * 2 ≤ _; simp; omega), keeps_own (Keeps.sets vs w g _), fun g' hg' => Or.inl hg'⟩
  have HA : Hid (∀ ty, (Builtin.append_ #[53, 53] ty #[.slice (some ⟨g, 0, none⟩) i c, .slice none 0 0]).run Tryd.prog w = .ok (.slice (some ⟨g, 0, none⟩) i c) w) := hA
  clear hA hh hown hg0 hs0 hc0 hcm hvl
  rw [hi] at X ⊢
  have hq1 : (i : Int) < (i : Int) + 1 := by omega
  clear hi hlc
  go_enter Tryd.func62, Tryd.ntmps62
  go_wp2_with (at_builtin; refine Lib.wpList_append_run _ rfl _ _ _ _ rfl _ _ rfl rfl _ _ (HA.out _) ?_)
  go_ret
  exact X.out

set_option maxRecDepth 100000 in
set_option maxHeartbeats 4000000 in
/-- The last one, by some. -/
theorem replaceA_rB {B : Nat} {w : World} {g c q cq : Nat} {l M : List Bk} (hown : Row rB B w (.slice (some ⟨g, 0, none⟩) l.length c) l) (hsrc : Row rB 0 w (.slice (some ⟨q, 0, none⟩) M.length cq) M) (hM : 0 < M.length) (hm : l.length + M.length ≤ 4096) (hB : B ≤ w.heap.size)
    (i : Nat) (hi : l.length = i + 1) :
    Calls Tryd.prog 62 #[.slice (some ⟨g, 0, none⟩) l.length c, .int .i64 i, .int .i64 ((i + 1 : Nat) : Int), .slice (some ⟨q, 0, none⟩) M.length cq] w (TurnPrB w B (.slice (some ⟨g, 0, none⟩) l.length c) (l.take i ++ M)) := by
  obtain ⟨_, _, hlt, cur0, hg0, hlc, hcm, hs0, hc0⟩ := hown.cur
  have hcm' : c ≤ 9223372036854775807 := by unfold maxLen at hcm; omega
  have hci : ¬ (c = i) := by omega
  have hic : i ≤ c := by omega
  have hjc : i + 1 ≤ c := by omega
  have HS : Hid (Seen rB w (some ⟨q, 0, none⟩) cq M) := hsrc.seen.2
  have HH : Hid (Row rB B w (.slice (some ⟨g, 0, none⟩) i c) (l.take i)) := hown.head i (by omega)
  have htl : (l.take i).length = i := by simp; omega
  have hlen : (l.take i ++ M).length = i + M.length := by rw [List.length_append, htl]
  have HL : Hid ((l.take i ++ M).length = i + M.length) := hlen
  have hb : Hid (i + M.length ≤ 4096) := by show _ ≤ _; omega
  clear hown hsrc hg0 hs0 hc0 hcm htl hlen
  rw [hi]
  have hqq : ¬ ((i : Int) + (M.length : Int) < (i : Int) + 1) := by omega
  clear hi hlc
  go_enter Tryd.func62, Tryd.ntmps62
  go_wp2_with (at_builtin; refine list_app' rB.kin rfl _ _ rfl B _ (l.take i) M rfl HH.out (some ⟨q, 0, none⟩) M.length cq rfl rfl HS.out ?c3 ?c4 hB ?_)
  case c3 => have := hb.out; have := Nat.min_le_left i l.length; unfold maxLen; omega
  case c4 => have := hb.out; have := Nat.min_le_left i l.length; show _ * 16 ≤ _; omega
  intro v' w1 ho hgrow hw
  obtain ⟨ao', c', rfl⟩ := ho.form
  rw [HL.out] at ho hw ⊢
  have HR : Hid (Row rB B w1 (.slice ao' (i + M.length) c') (l.take i ++ M)) := ho
  have HG : Hid (w.grownBy w1 (Value.slice (some ⟨g, 0, none⟩) i c).ownBlock) := hgrow
  have HW : Hid (∀ g', (Value.slice ao' (i + M.length) c').ownBlock = some g' → _ ∨ w.heap.size ≤ g') := hw
  clear ho hgrow hw
  go_wp2
  go_ret
  exact ⟨_, rfl, HR.out, (Keeps.of_grown HG.out).mono fun _ _ e => e, HW.out⟩

theorem keeps_drewN {w w' : World} {n : Nat} {s : Nat → Prop} (h : Keeps (w.drewN n) w' s) : Keeps w w' s := ⟨h.os, h.tape, h.output, h.size, h.block⟩
theorem turn_drewN {B : Nat} {w w' : World} {n : Nat} {v : Value} {l : List Bk} {e : Ending} (h : TurnPrB (w.drewN n) B v l e w') : TurnPrB w B v l e w' := by
  obtain ⟨v', h1, h2, h3, h4⟩ := h
  exact ⟨v', h1, h2, keeps_drewN h3, h4⟩

/-- What 'No room' needs: the new row, and the two copies. -/
theorem prepN_rB {B : Nat} {w : World} {g c q cq : Nat} {l M : List Bk} (hown : Row rB B w (.slice (some ⟨g, 0, none⟩) l.length c) l) (hsrc : Row rB 0 w (.slice (some ⟨q, 0, none⟩) M.length cq) M) (hm : l.length + M.length ≤ 4096) (hB : B ≤ w.heap.size)
    (i j r : Nat) (hi : l.length = j + r) (hij : i ≤ j) (hr : 0 < r) (hroom : c < i + M.length + r) :
    ∃ (G : Nat) (W1 W2 : World), i + M.length + r ≤ G ∧ G ≤ maxLen ∧
      (∀ ty, (Builtin.append_ #[53, 3] ty #[.slice (some ⟨g, 0, none⟩) i c, .int .i64 ((M.length + r : Nat) : Int)]).run Tryd.prog w = .ok (.slice (some ⟨w.heap.size, 0, none⟩) (i + (M.length + r)) G) W1) ∧
      (∀ dc ty, (Builtin.copy_ #[53, 53] ty #[.slice (some ⟨w.heap.size, i * 2, none⟩) (M.length + r) dc, .slice (some ⟨q, 0, none⟩) M.length cq]).run Tryd.prog W1 = .ok (goInt M.length) W2) ∧
      (∀ dc sc ty, (Builtin.copy_ #[53, 53] ty #[.slice (some ⟨w.heap.size, (i + M.length) * 2, none⟩) r dc, .slice (some ⟨g, j * 2, none⟩) r sc]).run Tryd.prog W2.drew = .ok (goInt (l.drop j).length) (W2.drew.setCells w.heap.size ((i + M.length) * 2) (rB.all (l.drop j)))) ∧
      TurnPrB w B (.slice (some ⟨g, 0, none⟩) l.length c) (l.take i ++ (M ++ l.drop j)) (.returned (.slice (some ⟨w.heap.size, 0, none⟩) (i + (M.length + r)) G)) (W2.drew.setCells w.heap.size ((i + M.length) * 2) (rB.all (l.drop j))) := by
  obtain ⟨_, _, hlt, cur0, hg0, hlc, hcm, hs0, hc0⟩ := hown.cur
  obtain ⟨_, _, hltq, _⟩ := hsrc.cur
  obtain ⟨G, cur, hG1, hG2, hcs, hold, hz⟩ := run_zerosR rB.kin 3 Tryd.underlying3 w g i c (M.length + r) (l.take i) (by simp; omega) (by omega) (by omega) (by show _ * 16 ≤ _; omega) (by unfold maxLen; omega) (fun j u hj => by
    have h0 := hown.news 0
    rw [List.drop_zero] at h0
    have h1 := h0 j u (by
      rw [← List.take_append_drop i l, Rec.all_append, List.getElem?_append_left (List.getElem?_eq_some_iff.1 hj).1]
      exact hj)
    simpa using h1)
  obtain ⟨W1, hW1⟩ : ∃ W1, W1 = w.drew.alloc (.cells cur rB.t (0, 0)) := ⟨_, rfl⟩
  have hb1 : Below w.heap.size w W1 := by rw [hW1]; exact (Below.refl _ _).drew.alloc (Nat.le_refl _) _
  have hg1 : W1.heap[w.heap.size]? = some (.cells cur rB.t (0, 0)) := by rw [hW1]; exact heap_alloc_new w.drew _
  rw [← hW1] at hz
  have hcp1 : ∀ dc ty, (Builtin.copy_ #[53, 53] ty #[.slice (some ⟨w.heap.size, i * 2, none⟩) (M.length + r) dc, .slice (some ⟨q, 0, none⟩) M.length cq]).run Tryd.prog W1 = .ok (goInt M.length) (W1.setCells w.heap.size (i * 2) (rB.all M)) := fun dc ty =>
    copy_row rB.kin M (by simp only [Nat.min_def]; split <;> omega) (fun j hj => blk_spare hg1 (by have hj' : j < M.length * 2 := hj; have hcs' : cur.size = G * 2 := hcs; omega)) (fun j u hj => by
      have := (hsrc.below hb1).news 0 j u (by simpa using hj)
      simpa using this) ty
  obtain ⟨W2, hW2⟩ : ∃ W2, W2 = W1.setCells w.heap.size (i * 2) (rB.all M) := ⟨_, rfl⟩
  have hg2 : W2.heap[w.heap.size]? = some (.cells (wrs cur (i * 2) (rB.all M)) rB.t (0, 0)) := by rw [hW2]; exact heap_sets _ W1 _ _ cur _ hg1
  have hk2 : Keeps W1 W2 (fun b => b = w.heap.size) := by rw [hW2]; exact Keeps.sets _ _ _ _
  have hr2 : Row rB B W2 (.slice (some ⟨g, 0, none⟩) l.length c) l := hk2.row (hown.below hb1) (fun g' hg' e => by simp [Value.ownBlock] at hg'; omega)
  rw [← hW2] at hcp1
  refine ⟨G, W1, W2, by omega, hG2, hz, hcp1, fun dc sc ty => copy_row rB.kin (l.drop j) (by simp only [Nat.min_def, List.length_drop]; split <;> omega) (fun k hk => blk_spare (w := W2.drew) hg2 (by have hk' : k < (l.drop j).length * 2 := hk; have hcs' : cur.size = G * 2 := hcs; rw [List.length_drop] at hk'; rw [wrs_size]; omega)) (fun k u hk => hr2.news j k u hk) ty, _, rfl, ?_, ?_, fun g' hg' => Or.inr (by simp [Value.ownBlock] at hg'; omega)⟩
  · have h1 := Row.fresh (R := rB) (l := l) (w := W1) (j := j) hB hg1 hG2 hcs i M (by omega) (by omega) hold (nn := i + (M.length + r)) (by omega)
    rw [show rB.n = 2 from rfl, ← hW2] at h1
    refine h1.same fun g' hg' => ?_
    simp [Value.ownBlock] at hg'
    subst hg'
    have a1 := heap_sets (rB.all (l.drop j)) W2 w.heap.size ((i + M.length) * 2) _ _ hg2
    have a2 := heap_sets (rB.all (l.drop j)) W2.drew w.heap.size ((i + M.length) * 2) _ _ hg2
    exact a2.trans a1.symm
  · have k3 : Keeps W1 (W2.drew.setCells w.heap.size ((i + M.length) * 2) (rB.all (l.drop j))) (fun b => b = w.heap.size) := hk2.trans (keeps_drew (Keeps.sets _ W2.drew _ _)) fun _ _ h => h
    exact Keeps.of_below (hb1.trans (k3.below (by rw [hW1]; simp) fun b _ e => by omega)) _

set_option maxRecDepth 100000 in
set_option maxHeartbeats 4000000 in
/-- No room: a new row. -/
theorem replaceN_rB {B : Nat} {w : World} {g c q cq : Nat} {l M : List Bk} (hown : Row rB B w (.slice (some ⟨g, 0, none⟩) l.length c) l) (hsrc : Row rB 0 w (.slice (some ⟨q, 0, none⟩) M.length cq) M) (hM : 0 < M.length) (hm : l.length + M.length ≤ 4096) (hB : B ≤ w.heap.size)
    (i r : Nat) (hi : l.length = i + 1 + r) (hr : 0 < r) (hroom : c < i + M.length + r) :
    Calls Tryd.prog 62 #[.slice (some ⟨g, 0, none⟩) l.length c, .int .i64 i, .int .i64 ((i + 1 : Nat) : Int), .slice (some ⟨q, 0, none⟩) M.length cq] w (TurnPrB w B (.slice (some ⟨g, 0, none⟩) l.length c) (l.take i ++ (M ++ l.drop (i + 1)))) := by
  obtain ⟨_, _, hlt, cur0, hg0, hlc, hcm, hs0, hc0⟩ := hown.cur
  have hcm' : c ≤ 9223372036854775807 := by unfold maxLen at hcm; omega
  have HP := fun n => prepN_rB (w := w.drewN n) (hown.below (below_drewN (Below.refl _ _) n)) (hsrc.below (below_drewN (Below.refl _ _) n)) hm hB i (i + 1) r hi (by omega) hr hroom
  have hic : i ≤ c := by omega
  have hci : ¬ (c = i) := by omega
  have hcj : ¬ (c = i + 1) := by omega
  have hjc : i + 1 ≤ c := by omega
  have hmm : i + M.length + r ≤ 4096 := by omega
  rw [hi] at HP ⊢
  generalize l.drop (i + 1) = l2 at *
  generalize l.take i = l1 at *
  obtain ⟨m, hme⟩ : ∃ m, m = M.length := ⟨_, rfl⟩
  rw [← hme] at HP hM hm hmm hroom ⊢
  have HP' : Hid _ := HP
  have hnj : ¬ ((i : Int) + 1 = (i : Int) + 1 + (r : Int)) := by omega
  have hrz : (c : Int) < (i : Int) + (m : Int) + (r : Int) := by omega
  have hsub : (i : Int) + (m : Int) + (r : Int) - (i : Int) = ((m + r : Nat) : Int) := by omega
  clear hown hsrc hc0 hg0 hs0 hcm hlt hlc hi hm HP hme
  go_enter Tryd.func62, Tryd.ntmps62
  go_wp2
  go_quiet (fail)
  obtain ⟨G, W1, W2, hG1, hG2, hz, hc1, hc2, hX⟩ := HP'.out nq
  have hX' := turn_drewN hX
  obtain ⟨T, hT⟩ : ∃ T, T = i + (m + r) := ⟨_, rfl⟩
  obtain ⟨b, hb⟩ : ∃ b, b = (w.drewN nq).heap.size := ⟨_, rfl⟩
  rw [← hT, ← hb] at hX' hz
  rw [← hb, show m + r = T - i by omega] at hc1
  rw [← hb] at hc2
  have HZ : Hid (∀ ty, (Builtin.append_ #[53, 3] ty #[.slice (some ⟨g, 0, none⟩) i c, .int .i64 ((i : Int) + (m : Int) + (r : Int) - (i : Int))]).run Tryd.prog (w.drewN nq) = .ok (.slice (some ⟨b, 0, none⟩) T G) W1) := by rw [hsub]; exact hz
  have HC1 : Hid (∀ dc ty, (Builtin.copy_ #[53, 53] ty #[.slice (some ⟨b, i * 2, none⟩) (T - i) dc, .slice (some ⟨q, 0, none⟩) m cq]).run Tryd.prog W1 = .ok (goInt m) W2) := hc1
  have HC2 : Hid (∀ dc sc ty, (Builtin.copy_ #[53, 53] ty #[.slice (some ⟨b, (i + m) * 2, none⟩) (T - (i + m)) dc, .slice (some ⟨g, (i + 1) * 2, none⟩) r sc]).run Tryd.prog W2.drew = .ok (goInt l2.length) (W2.drew.setCells b ((i + m) * 2) (rB.all l2))) := by rw [show T - (i + m) = r by omega]; exact hc2
  have HX : Hid (TurnPrB w B (.slice (some ⟨g, 0, none⟩) (i + 1 + r) c) (l1 ++ (M ++ l2)) (.returned (.slice (some ⟨b, 0, none⟩) T G)) (W2.drew.setCells b ((i + m) * 2) (rB.all l2))) := hX'
  have hq1 : ¬ (G = i) := by omega
  have hq2 : ¬ (G = i + m) := by omega
  have hq4 : i ≤ T := by omega
  have hq5 : i + m ≤ T := by omega
  have hq6 : T ≤ G := by omega
  have hw1 : IntKind.i64.wrap ((i : Int) + (m : Int)) = (i : Int) + (m : Int) := by rw [IntKind.wrap_i64]; omega
  have hb1' : (0 : Int) ≤ (i : Int) + (m : Int) := by omega
  have hb2' : (i : Int) + (m : Int) ≤ (T : Int) := by omega
  have htn : ((i : Int) + (m : Int)).toNat = i + m := by omega
  have hb6 : (0 : Int) ≤ (i : Int) + 1 := by omega
  have hb7 : (i : Int) + 1 ≤ (i : Int) + 1 + (r : Int) := by omega
  have hb8 : ((i : Int) + 1).toNat = i + 1 := by omega
  have hb9 : i + 1 + r - (i + 1) = r := by omega
  have hG3 : G ≤ 9223372036854775807 := by unfold maxLen at hG2; omega
  clear hX hX' hz hc1 hc2 hT hb hG1 hG2 HP' hsub
  generalize w.drewN nq = w0 at *
  go_wp2_with (first | (at_builtin; refine Lib.wpList_append_run _ rfl _ _ _ _ rfl _ _ rfl rfl _ _ (HZ.out _) ?_) | (refine list_copyR _ rfl _ _ rfl _ _ rfl rfl (HC1.out _) ?_))
  go_region_law (refine step_copyR rfl _ _ rfl (.slice (some ⟨b, (i + m) * 2, none⟩) (T - (i + m)) (G - (i + m))) (.slice (some ⟨g, (i + 1) * 2, none⟩) r (c - (i + 1))) (by simp [Act.eval, Act.put]) (by simp [Act.eval, Act.put]) (HC2.out _ _) ?_)
  go_wp2
  go_ret
  exact HX.out

/-- What 'in place, what is new being no longer' needs. -/
theorem prepC_rB {B : Nat} {w : World} {g c : Nat} {l M : List Bk} (hown : Row rB B w (.slice (some ⟨g, 0, none⟩) l.length c) l)
    (i r : Nat) (hi : l.length = i + 1 + r) (hr : 0 < r) (hM : M.length ≤ 1) (cc o' : Nat) (ho' : M.length = 1 ∨ o' = (i + M.length + r) * 2) :
    ∃ (W2 W3 : World),
      (∀ dc sc ty, (Builtin.copy_ #[53, 53] ty #[.slice (some ⟨g, (i + M.length) * 2, none⟩) r dc, .slice (some ⟨g, (i + 1) * 2, none⟩) r sc]).run Tryd.prog (w.setCells g (i * 2) (rB.all M)).drew = .ok (goInt (l.drop (i + 1)).length) W2) ∧
      (∀ ty, (Builtin.clear_ #[53] ty #[.slice (some ⟨g, o', none⟩) (1 - M.length) cc]).run Tryd.prog W2 = .ok (.tuple #[]) W3) ∧
      TurnPrB w B (.slice (some ⟨g, 0, none⟩) l.length c) (l.take i ++ (M ++ l.drop (i + 1))) (.returned (.slice (some ⟨g, 0, none⟩) (i + M.length + r) c)) W3 := by
  obtain ⟨_, _, hlt, cur0, hg0, hlc, hcm, hs0, hc0⟩ := hown.cur
  have hs0' : cur0.size = c * 2 := hs0
  obtain ⟨W1, hW1⟩ : ∃ W1, W1 = w.setCells g (i * 2) (rB.all M) := ⟨_, rfl⟩
  have hk1 : Keeps w W1 (fun b => b = g) := by rw [hW1]; exact Keeps.sets _ _ _ _
  have hg1 : W1.heap[g]? = some (.cells (wrs cur0 (i * 2) (rB.all M)) rB.t (0, 0)) := by rw [hW1]; exact heap_sets _ w _ _ cur0 _ hg0
  have hsrc : ∀ (j : Nat) (u : Value), (rB.all (l.drop (i + 1)))[j]? = some u → W1.cell? ⟨g, (i + 1) * 2 + j, none⟩ = some u := by
    intro j u hj
    have h0 := hown.news (i + 1) j u hj
    rw [cell_of_row w g _ cur0 _ _ hg0] at h0
    have hal : (rB.all M).length = M.length * 2 := rB.all_len M
    rw [cell_of_row W1 g _ _ _ _ hg1, wrs_out _ _ _ _ (Or.inr (by rw [hal]; omega))]
    exact h0
  obtain ⟨W2, hW2⟩ : ∃ W2, W2 = W1.drew.setCells g ((i + M.length) * 2) (rB.all (l.drop (i + 1))) := ⟨_, rfl⟩
  have hk2 : Keeps W1 W2 (fun b => b = g) := by rw [hW2]; exact keeps_drew (Keeps.sets _ _ _ _)
  have hr2 : Row rB B W2 (.slice (some ⟨g, 0, none⟩) (i + M.length + r) c) (l.take i ++ (M ++ l.drop (i + 1))) := by
    have h1 := hown.repl' i (i + 1) M (by omega) (by omega) (nn := i + M.length + r) (by omega)
    rw [show rB.n = 2 from rfl, ← hW1] at h1
    refine h1.same fun g' hg' => ?_
    simp [Value.ownBlock] at hg'
    subst hg'
    rw [hW2]
    have a1 := heap_sets (rB.all (l.drop (i + 1))) W1 g ((i + M.length) * 2) _ _ hg1
    have a2 := heap_sets (rB.all (l.drop (i + 1))) W1.drew g ((i + M.length) * 2) _ _ hg1
    exact a2.trans a1.symm
  have hl2 := len_repl l M i (i + 1) (by omega)
  obtain ⟨vs, hvl, hcl⟩ := run_clearR rB.kin rB.zone W2 g o' (1 - M.length) cc (fun j hj => (hr2.spare _ (by
    have hj' : j < (1 - M.length) * 2 := hj
    show _ < c * 2
    rcases ho' with h | h <;> omega)).1) (fun j => hr2.frozen j)
  have hvl' : vs.length = (1 - M.length) * 2 := hvl
  refine ⟨W2, W2.setCells g o' vs, fun dc sc ty => ?_, hcl, _, rfl, ?_, keeps_own ((hk1.trans hk2 fun _ _ h => h).trans (Keeps.sets vs W2 g _) fun _ _ h => h), fun g' hg' => Or.inl hg'⟩
  · rw [hW2, ← hW1]
    exact copy_row (W := W1.drew) rB.kin (l.drop (i + 1)) (by simp only [Nat.min_def, List.length_drop]; split <;> omega) (fun k hk => blk_spare (w := W1.drew) hg1 (by have hk' : k < (l.drop (i + 1)).length * 2 := hk; rw [List.length_drop] at hk'; rw [wrs_size]; omega)) (fun k u hk => hsrc k u hk) ty
  · rcases ho' with h | h
    · have h0 : vs = [] := List.eq_nil_of_length_eq_zero (by omega)
      rw [h0]
      exact hr2
    · exact hr2.tail _ vs (by rw [hl2]; show _ * 2 ≤ _; omega)

set_option maxRecDepth 100000 in
set_option maxHeartbeats 4000000 in
/-- In place, by nothing. -/
theorem replaceC0_rB {B : Nat} {w : World} {g c : Nat} {l : List Bk} (hown : Row rB B w (.slice (some ⟨g, 0, none⟩) l.length c) l) (hm : l.length ≤ 4096)
    (i r : Nat) (hi : l.length = i + 1 + r) (hr : 0 < r) :
    Calls Tryd.prog 62 #[.slice (some ⟨g, 0, none⟩) l.length c, .int .i64 i, .int .i64 ((i + 1 : Nat) : Int), .slice none 0 0] w (TurnPrB w B (.slice (some ⟨g, 0, none⟩) l.length c) (l.take i ++ l.drop (i + 1))) := by
  obtain ⟨_, _, hlt, cur0, hg0, hlc, hcm, hs0, hc0⟩ := hown.cur
  have hcm' : c ≤ 9223372036854775807 := by unfold maxLen at hcm; omega
  have HP := fun n => prepC_rB (w := w.drewN n) (M := []) (hown.below (below_drewN (Below.refl _ _) n)) i r hi hr (by simp) (c - (i + r)) ((i + r) * 2) (Or.inr (by simp))
  have hC0 := fun w dLen dc => run_copy0 (P := Tryd.prog) (s := 53) rB.kin w 3 ⟨g, i * 2, none⟩ dLen dc
  have hic : i ≤ c := by omega
  have hci : ¬ (c = i) := by omega
  have hcj : ¬ (c = i + 1) := by omega
  have hct : ¬ (c = i + r) := by omega
  have hjc : i + 1 ≤ c := by omega
  have htc : i + r ≤ c := by omega
  have hmm : i + r ≤ 4096 := by omega
  rw [hi] at HP ⊢
  generalize l.drop (i + 1) = l2 at *
  generalize l.take i = l1 at *
  simp only [List.length_nil, Nat.add_zero, List.nil_append, Nat.sub_zero] at HP
  have HP' : Hid _ := HP
  have hnj : ¬ ((i : Int) + 1 = (i : Int) + 1 + (r : Int)) := by omega
  have hrz : ¬ ((c : Int) < (i : Int) + (r : Int)) := by omega
  clear hown hc0 hg0 hs0 hcm hlt hlc hi hm HP
  go_enter Tryd.func62, Tryd.ntmps62
  go_wp2
  go_quiet (fail)
  obtain ⟨W2, W3, hc2, hcl, hX⟩ := HP'.out nq
  have hX' := turn_drewN hX
  have HX : Hid (TurnPrB w B (.slice (some ⟨g, 0, none⟩) (i + 1 + r) c) (l1 ++ l2) (.returned (.slice (some ⟨g, 0, none⟩) (i + r) c)) W3) := hX'
  have HC2 : Hid (∀ dc sc ty, (Builtin.copy_ #[53, 53] ty #[.slice (some ⟨g, i * 2, none⟩) r dc, .slice (some ⟨g, (i + 1) * 2, none⟩) r sc]).run Tryd.prog (w.drewN nq).drew = .ok (goInt l2.length) W2) := hc2
  clear hX hX' hc2 HP'
  generalize w.drewN nq = w0 at *
  have hb6 : (0 : Int) ≤ (i : Int) + 1 := by omega
  have hb7 : (i : Int) + 1 ≤ (i : Int) + 1 + (r : Int) := by omega
  have hb8 : ((i : Int) + 1).toNat = i + 1 := by omega
  have hb9 : i + 1 + r - (i + 1) = r := by omega
  have hb10 : i + 1 + r - (i + r) = 1 := by omega
  have hw0 : IntKind.i64.wrap (i : Int) = (i : Int) := by rw [IntKind.wrap_i64]; omega
  have hw3 : (i : Int) ≤ (i : Int) + (r : Int) := by omega
  go_wp2
  go_region_law (refine step_copyR rfl _ _ rfl (.slice (some ⟨g, i * 2, none⟩) r (c - i)) (.slice (some ⟨g, (i + 1) * 2, none⟩) r (c - (i + 1))) (by simp [Act.eval, Act.put]) (by simp [Act.eval, Act.put]) (HC2.out _ _) ?_)
  go_wp2
  go_ret
  exact HX.out

set_option maxRecDepth 100000 in
set_option maxHeartbeats 4000000 in
/-- In place, by one. -/
theorem replaceC1_rB {B : Nat} {w : World} {g c q cq : Nat} {l M : List Bk} (hown : Row rB B w (.slice (some ⟨g, 0, none⟩) l.length c) l) (hsrc : Row rB 0 w (.slice (some ⟨q, 0, none⟩) M.length cq) M) (hM : M.length = 1) (hm : l.length ≤ 4096)
    (i r : Nat) (hi : l.length = i + 1 + r) (hr : 0 < r) (o' : Nat) (ho' : o' = if c = i + 1 + r then 0 else (i + 1 + r) * 2) :
    Calls Tryd.prog 62 #[.slice (some ⟨g, 0, none⟩) l.length c, .int .i64 i, .int .i64 ((i + 1 : Nat) : Int), .slice (some ⟨q, 0, none⟩) M.length cq] w (TurnPrB w B (.slice (some ⟨g, 0, none⟩) l.length c) (l.take i ++ (M ++ l.drop (i + 1)))) := by
  obtain ⟨_, _, hlt, cur0, hg0, hlc, hcm, hs0, hc0⟩ := hown.cur
  have hcm' : c ≤ 9223372036854775807 := by unfold maxLen at hcm; omega
  have HP := fun n => prepC_rB (w := w.drewN n) (M := M) (hown.below (below_drewN (Below.refl _ _) n)) i r hi hr (by omega) (c - (i + 1 + r)) o' (Or.inl hM)
  have hC1 : ∀ n dc ty, (Builtin.copy_ #[53, 53] ty #[.slice (some ⟨g, i * 2, none⟩) (1 + r) dc, .slice (some ⟨q, 0, none⟩) 1 cq]).run Tryd.prog (w.drewN n) = .ok (goInt M.length) ((w.drewN n).setCells g (i * 2) (rB.all M)) := fun n dc ty =>
    copy_row (W := w.drewN n) rB.kin M (by rw [hM]; simp only [Nat.min_def]; split <;> omega) (fun j hj => (hown.below (below_drewN (Below.refl _ _) n)).spare _ (by have hj' : j < M.length * 2 := hj; show i * 2 + j < c * 2; omega)) (fun j u hj => by
      have := (hsrc.below (below_drewN (Below.refl _ _) n)).news 0 j u (by simpa using hj)
      simpa using this) ty
  have hic : i ≤ c := by omega
  have hci : ¬ (c = i) := by omega
  have hcj : ¬ (c = i + 1) := by omega
  have hjc : i + 1 ≤ c := by omega
  have htc : i + 1 + r ≤ c := by omega
  have hmm : i + 1 + r ≤ 4096 := by omega
  rw [hi] at HP ⊢
  rw [hM] at HP hC1 ⊢
  generalize l.drop (i + 1) = l2 at *
  generalize l.take i = l1 at *
  have HP' : Hid _ := HP
  have HC1 : Hid (∀ n dc ty, (Builtin.copy_ #[53, 53] ty #[.slice (some ⟨g, i * 2, none⟩) (1 + r) dc, .slice (some ⟨q, 0, none⟩) 1 cq]).run Tryd.prog (w.drewN n) = .ok (goInt 1) ((w.drewN n).setCells g (i * 2) (rB.all M))) := hC1
  have hnj : ¬ ((i : Int) + 1 = (i : Int) + 1 + (r : Int)) := by omega
  have hrz : ¬ ((c : Int) < (i : Int) + 1 + (r : Int)) := by omega
  clear hown hsrc hc0 hg0 hs0 hcm hlt hlc hi hm HP hM hC1
  by_cases hce : c = i + 1 + r
  · subst hce
    simp only [if_true] at ho'
    subst ho'
    go_enter Tryd.func62, Tryd.ntmps62
    go_wp2
    go_quiet (fail)
    obtain ⟨W2, W3, hc2, hcl, hX⟩ := HP'.out nq
    have hC1 := HC1.out nq
    obtain ⟨W1, hW1⟩ : ∃ W1, W1 = (w.drewN nq).setCells g (i * 2) (rB.all M) := ⟨_, rfl⟩
    rw [← hW1] at hc2 hC1
    have hX' := turn_drewN hX
    simp only [Nat.sub_self] at hcl
    have HX : Hid (TurnPrB w B (.slice (some ⟨g, 0, none⟩) (i + 1 + r) (i + 1 + r)) (l1 ++ (M ++ l2)) (.returned (.slice (some ⟨g, 0, none⟩) (i + 1 + r) (i + 1 + r))) W3) := hX'
    have HCC : Hid (∀ dc ty, (Builtin.copy_ #[53, 53] ty #[.slice (some ⟨g, i * 2, none⟩) (1 + r) dc, .slice (some ⟨q, 0, none⟩) 1 cq]).run Tryd.prog (w.drewN nq) = .ok (goInt 1) W1) := hC1
    have HC2 : Hid (∀ dc sc ty, (Builtin.copy_ #[53, 53] ty #[.slice (some ⟨g, (i + 1) * 2, none⟩) r dc, .slice (some ⟨g, (i + 1) * 2, none⟩) r sc]).run Tryd.prog W1.drew = .ok (goInt l2.length) W2) := hc2
    clear hX hX' hc2 HP' hC1 hW1 HC1
    generalize w.drewN nq = w0 at *
    have hb6 : (0 : Int) ≤ (i : Int) + 1 := by omega
    have hb7 : (i : Int) + 1 ≤ (i : Int) + 1 + (r : Int) := by omega
    have hb8 : ((i : Int) + 1).toNat = i + 1 := by omega
    have hb9 : i + 1 + r - (i + 1) = r := by omega
    have hb10 : i + 1 + r - i = 1 + r := by omega
    have hw0 : IntKind.i64.wrap ((i : Int) + 1) = (i : Int) + 1 := by rw [IntKind.wrap_i64]; omega
    go_wp2_with (refine list_copyR _ rfl _ _ rfl _ _ rfl rfl (HCC.out _) ?_)
    go_region_law (refine step_copyR rfl _ _ rfl (.slice (some ⟨g, (i + 1) * 2, none⟩) r r) (.slice (some ⟨g, (i + 1) * 2, none⟩) r r) (by simp [Act.eval, Act.put]; omega) (by simp [Act.eval, Act.put]; omega) (HC2.out _ _) ?_)
    go_wp2
    go_ret
    exact HX.out
  · rw [if_neg hce] at ho'
    subst ho'
    go_enter Tryd.func62, Tryd.ntmps62
    go_wp2
    go_quiet (fail)
    obtain ⟨W2, W3, hc2, hcl, hX⟩ := HP'.out nq
    have hC1 := HC1.out nq
    obtain ⟨W1, hW1⟩ : ∃ W1, W1 = (w.drewN nq).setCells g (i * 2) (rB.all M) := ⟨_, rfl⟩
    rw [← hW1] at hc2 hC1
    have hX' := turn_drewN hX
    simp only [Nat.sub_self] at hcl
    have HX : Hid (TurnPrB w B (.slice (some ⟨g, 0, none⟩) (i + 1 + r) c) (l1 ++ (M ++ l2)) (.returned (.slice (some ⟨g, 0, none⟩) (i + 1 + r) c)) W3) := hX'
    have HCC : Hid (∀ dc ty, (Builtin.copy_ #[53, 53] ty #[.slice (some ⟨g, i * 2, none⟩) (1 + r) dc, .slice (some ⟨q, 0, none⟩) 1 cq]).run Tryd.prog (w.drewN nq) = .ok (goInt 1) W1) := hC1
    have HC2 : Hid (∀ dc sc ty, (Builtin.copy_ #[53, 53] ty #[.slice (some ⟨g, (i + 1) * 2, none⟩) r dc, .slice (some ⟨g, (i + 1) * 2, none⟩) r sc]).run Tryd.prog W1.drew = .ok (goInt l2.length) W2) := hc2
    clear hX hX' hc2 HP' hC1 hW1 HC1
    generalize w.drewN nq = w0 at *
    have hb6 : (0 : Int) ≤ (i : Int) + 1 := by omega
    have hb7 : (i : Int) + 1 ≤ (i : Int) + 1 + (r : Int) := by omega
    have hb8 : ((i : Int) + 1).toNat = i + 1 := by omega
    have hb9 : i + 1 + r - (i + 1) = r := by omega
    have hb10 : i + 1 + r - i = 1 + r := by omega
    have hw0 : IntKind.i64.wrap ((i : Int) + 1) = (i : Int) + 1 := by rw [IntKind.wrap_i64]; omega
    go_wp2_with (refine list_copyR _ rfl _ _ rfl _ _ rfl rfl (HCC.out _) ?_)
    go_region_law (refine step_copyR rfl _ _ rfl (.slice (some ⟨g, (i + 1) * 2, none⟩) r (c - (i + 1))) (.slice (some ⟨g, (i + 1) * 2, none⟩) r (c - (i + 1))) (by simp [Act.eval, Act.put]) (by simp [Act.eval, Act.put]) (HC2.out _ _) ?_)
    go_wp2
    go_ret
    exact HX.out
end Go.Proofs.YtmmbfgkfidconaaDoor
/- slices.Replace(s, i, i+1, v...) over rows of one kind of record: in place by more than one; all its ways. -/
namespace Go.Proofs.YtmmbfgkfidconaaDoor
open Go.RowKit

/-- What 'in place, what is new being longer' needs. -/
theorem prepD_rB {B : Nat} {w : World} {g c q cq : Nat} {l M : List Bk} (hown : Row rB B w (.slice (some ⟨g, 0, none⟩) l.length c) l) (hsrc : Row rB 0 w (.slice (some ⟨q, 0, none⟩) M.length cq) M) (hqg : q ≠ g)
    (i r : Nat) (hi : l.length = i + 1 + r) (hM : 2 ≤ M.length) (hfit : i + M.length + r ≤ c) :
    ∃ (W1 W2 : World),
      (∀ lb ca, (callFunc 65 #[.slice (some ⟨g, (i + M.length) * 2, none⟩) lb ca, .slice (some ⟨q, 0, none⟩) M.length cq]).run Tryd.prog w = .ok (.value (.bool false)) w) ∧
      (∀ dc sc ty, (Builtin.copy_ #[53, 53] ty #[.slice (some ⟨g, (i + M.length) * 2, none⟩) r dc, .slice (some ⟨g, (i + 1) * 2, none⟩) r sc]).run Tryd.prog w.drew = .ok (goInt (l.drop (i + 1)).length) W1) ∧
      (∀ dc ty, (Builtin.copy_ #[53, 53] ty #[.slice (some ⟨g, i * 2, none⟩) (M.length + r) dc, .slice (some ⟨q, 0, none⟩) M.length cq]).run Tryd.prog W1 = .ok (goInt M.length) W2) ∧
      TurnPrB w B (.slice (some ⟨g, 0, none⟩) l.length c) (l.take i ++ (M ++ l.drop (i + 1))) (.returned (.slice (some ⟨g, 0, none⟩) (i + M.length + r) c)) W2 := by
  obtain ⟨_, _, hlt, cur0, hg0, hlc, hcm, hs0, hc0⟩ := hown.cur
  have hs0' : cur0.size = c * 2 := hs0
  obtain ⟨kA, hsa⟩ := hown.shape (by omega)
  obtain ⟨kB, hsb⟩ := hsrc.shape (by omega)
  have hsz : ∀ w, (sizeOf 56).run Tryd.prog w = .ok 2 w := fun w => by
    obtain ⟨i0, z0, hi0, hz0, hz1, _⟩ := rB.kin.inf
    have hi0' : Tryd.prog.info? 56 = some i0 := hi0
    have hz1' : i0.size = 2 := hz1
    simp [sizeOf, typeInfo, hi0', hz1']
  obtain ⟨W1, hW1⟩ : ∃ W1, W1 = w.drew.setCells g ((i + M.length) * 2) (rB.all (l.drop (i + 1))) := ⟨_, rfl⟩
  have hk1 : Keeps w W1 (fun b => b = g) := by rw [hW1]; exact keeps_drew (Keeps.sets _ _ _ _)
  have hg1 : W1.heap[g]? = some (.cells (wrs cur0 ((i + M.length) * 2) (rB.all (l.drop (i + 1)))) rB.t (0, 0)) := by rw [hW1]; exact heap_sets _ w.drew _ _ cur0 _ hg0
  refine ⟨W1, W1.setCells g (i * 2) (rB.all M), fun lb ca => ?_, fun dc sc ty => ?_, fun dc ty => ?_, _, rfl, ?_, keeps_own (hk1.trans (Keeps.sets _ W1 _ _) fun _ _ h => h), fun g' hg' => Or.inl hg'⟩
  · rw [run_callFunc_extern Tryd.func65 (by kernel_rfl) (by kernel_rfl) (by kernel_rfl) (e := Extern.SlicesOverlaps.overlaps #[53, 53] #[4]) (by kernel_rfl),
      Lib.run_overlaps_apart w 53 4 56 Tryd.underlying53 2 hsz ⟨g, (i + M.length) * 2, none⟩ ⟨q, 0, none⟩ lb ca M.length cq hqg.symm _ _ _ _ hsa hsb (by omega) (hown.frozen _) (hown.frozen _)]
    rfl
  · rw [hW1]
    exact copy_row (W := w.drew) rB.kin (l.drop (i + 1)) (by simp only [Nat.min_def, List.length_drop]; split <;> omega) (fun j hj => (hown.below (Below.refl _ _).drew).spare ((i + M.length) * 2 + j) (by have hj' : j < (l.drop (i + 1)).length * 2 := hj; rw [List.length_drop] at hj'; show _ < c * 2; omega)) (fun j u hj => hown.news (i + 1) j u hj) ty
  · exact copy_row rB.kin M (by simp only [Nat.min_def]; split <;> omega) (fun j hj => blk_spare hg1 (by have hj' : j < M.length * 2 := hj; rw [wrs_size]; omega)) (fun j u hj => by
      have := (hk1.row hsrc (fun g' hg' e => by simp [Value.ownBlock] at hg'; omega)).news 0 j u (by simpa using hj)
      simpa using this) ty
  · rw [hW1]
    exact Row.repl (R := rB) (w := w.drew) (hown.below (Below.refl _ _).drew) i (i + 1) M (by omega) (by omega) (by omega)

set_option maxRecDepth 100000 in
set_option maxHeartbeats 4000000 in
/-- In place, by more. -/
theorem replaceD_rB {B : Nat} {w : World} {g c q cq : Nat} {l M : List Bk} (hown : Row rB B w (.slice (some ⟨g, 0, none⟩) l.length c) l) (hsrc : Row rB 0 w (.slice (some ⟨q, 0, none⟩) M.length cq) M) (hqg : q ≠ g) (hM : 2 ≤ M.length) (hm : l.length + M.length ≤ 4096)
    (i r : Nat) (hi : l.length = i + 1 + r) (hr : 0 < r) (hfit : i + M.length + r ≤ c) :
    Calls Tryd.prog 62 #[.slice (some ⟨g, 0, none⟩) l.length c, .int .i64 i, .int .i64 ((i + 1 : Nat) : Int), .slice (some ⟨q, 0, none⟩) M.length cq] w (TurnPrB w B (.slice (some ⟨g, 0, none⟩) l.length c) (l.take i ++ (M ++ l.drop (i + 1)))) := by
  obtain ⟨_, _, hlt, cur0, hg0, hlc, hcm, hs0, hc0⟩ := hown.cur
  have hcm' : c ≤ 9223372036854775807 := by unfold maxLen at hcm; omega
  have HP := fun n => prepD_rB (w := w.drewN n) (M := M) (hown.below (below_drewN (Below.refl _ _) n)) (hsrc.below (below_drewN (Below.refl _ _) n)) hqg i r hi hM hfit
  have hic : i ≤ c := by omega
  have hci : ¬ (c = i) := by omega
  have hcj : ¬ (c = i + 1) := by omega
  have hjc : i + 1 ≤ c := by omega
  have hmm : i + M.length + r ≤ 4096 := by omega
  rw [hi] at HP ⊢
  generalize l.drop (i + 1) = l2 at *
  generalize l.take i = l1 at *
  obtain ⟨m, hme⟩ : ∃ m, m = M.length := ⟨_, rfl⟩
  rw [← hme] at HP hM hm hmm hfit ⊢
  have HP' : Hid _ := HP
  have hnj : ¬ ((i : Int) + 1 = (i : Int) + 1 + (r : Int)) := by omega
  have hrz : ¬ ((c : Int) < (i : Int) + (m : Int) + (r : Int)) := by omega
  have hmj : ¬ ((i : Int) + (m : Int) ≤ (i : Int) + 1) := by omega
  have hcm2 : ¬ (c = i + m) := by omega
  clear hown hsrc hc0 hg0 hs0 hcm hlt hlc hi hm HP hme
  go_enter Tryd.func62, Tryd.ntmps62
  go_wp2
  go_quiet (fail)
  obtain ⟨W1, W2, hov, hc1, hc2, hX⟩ := HP'.out nq
  have hX' := turn_drewN hX
  have HX : Hid (TurnPrB w B (.slice (some ⟨g, 0, none⟩) (i + 1 + r) c) (l1 ++ (M ++ l2)) (.returned (.slice (some ⟨g, 0, none⟩) (i + m + r) c)) W2) := hX'
  have HC1 : Hid (∀ dc sc ty, (Builtin.copy_ #[53, 53] ty #[.slice (some ⟨g, (i + m) * 2, none⟩) r dc, .slice (some ⟨g, (i + 1) * 2, none⟩) r sc]).run Tryd.prog (w.drewN nq).drew = .ok (goInt l2.length) W1) := hc1
  have HC2 : Hid (∀ dc ty, (Builtin.copy_ #[53, 53] ty #[.slice (some ⟨g, i * 2, none⟩) (m + r) dc, .slice (some ⟨q, 0, none⟩) m cq]).run Tryd.prog W1 = .ok (goInt m) W2) := hc2
  clear hX hX' hc1 hc2 HP'
  generalize w.drewN nq = w0 at *
  have hb6 : (0 : Int) ≤ (i : Int) + 1 := by omega
  have hb7 : (i : Int) + 1 ≤ (i : Int) + 1 + (r : Int) := by omega
  have hb8 : ((i : Int) + 1).toNat = i + 1 := by omega
  have hb9 : i + 1 + r - (i + 1) = r := by omega
  have hb10 : i + m + r - (i + m) = r := by omega
  have hb11 : i + m + r - i = m + r := by omega
  have hw1 : IntKind.i64.wrap ((i : Int) + (m : Int)) = (i : Int) + (m : Int) := by rw [IntKind.wrap_i64]; omega
  have hb1' : (0 : Int) ≤ (i : Int) + (m : Int) := by omega
  have hb2' : (i : Int) + (m : Int) ≤ (i : Int) + (m : Int) + (r : Int) := by omega
  have htn : ((i : Int) + (m : Int)).toNat = i + m := by omega
  go_wp2_with (simp only [hov])
  go_region_law (refine step_copyR rfl _ _ rfl (.slice (some ⟨g, (i + m) * 2, none⟩) r (c - (i + m))) (.slice (some ⟨g, (i + 1) * 2, none⟩) r (c - (i + 1))) (by simp [Act.eval, Act.put]) (by simp [Act.eval, Act.put]) (HC1.out _ _) ?_)
  go_wp2_with (refine list_copyR _ rfl _ _ rfl _ _ rfl rfl (HC2.out _) ?_)
  go_ret
  exact HX.out

/-- Replace by a row of one's own: all its ways. -/
theorem replace_rB {B : Nat} {w : World} {v u : Value} {l M : List Bk} (hown : Row rB B w v l) (hsrc : Row rB 0 w u M) (hnil : M = [] → u = .slice none 0 0) (hne : ∀ g, v.ownBlock = some g → u.ownBlock ≠ some g) (hm : l.length + M.length ≤ 4096) (hB : B ≤ w.heap.size)
    (i : Nat) (hi : i < l.length) :
    Calls Tryd.prog 62 #[v, .int .i64 i, .int .i64 ((i + 1 : Nat) : Int), u] w (TurnPrB w B v (l.take i ++ (M ++ l.drop (i + 1)))) := by
  rcases hown.cases with ⟨rfl, rfl⟩ | ⟨g, c, cur, rfl, _, _, _, h1, h2, _⟩
  · simp at hi
  · obtain ⟨r, hr⟩ : ∃ r, l.length = i + 1 + r := ⟨l.length - (i + 1), by omega⟩
    rcases hsrc.cases with ⟨rfl, rfl⟩ | ⟨q, cq, cur', rfl, _, _, _, h3, h4, _⟩
    · by_cases h0 : r = 0
      · subst h0
        have := replaceA0_rB hown i hr
        rw [List.drop_eq_nil_of_le (by omega), List.append_nil, List.append_nil]
        exact this
      · exact replaceC0_rB hown (by omega) i r hr (by omega)
    · have hM : 0 < M.length := by
        rcases Nat.eq_zero_or_pos M.length with h | h
        · have := hnil (List.eq_nil_of_length_eq_zero h)
          cases this
        · exact h
      have hqg : q ≠ g := fun e => hne g rfl (by rw [e]; rfl)
      by_cases h0 : r = 0
      · subst h0
        have := replaceA_rB hown hsrc hM hm hB i hr
        rw [List.drop_eq_nil_of_le (by omega), List.append_nil]
        exact this
      · rcases Nat.lt_or_ge c (i + M.length + r) with hc | hc
        · exact replaceN_rB hown hsrc hM hm hB i r hr (by omega) hc
        · by_cases h5 : M.length = 1
          · exact replaceC1_rB hown hsrc h5 (by omega) i r hr (by omega) _ rfl
          · exact replaceD_rB hown hsrc hqg (by omega) hm i r hr (by omega) hc
end Go.Proofs.YtmmbfgkfidconaaDoor
/- A store whose row turns; what a call leaves as it was. -/
namespace Go.Proofs.YtmmbfgkfidconaaDoor
open Go.RowKit

/-- A store's blocks, and those that are new since. -/
def nw (F : Nat → Prop) (w w' : World) (c : Nat) : Prop := F c ∨ w.heap.size ≤ c ∧ c < w'.heap.size
/-- What a call leaves of a store. -/
def SP (F : Nat → Prop) (w : World) (p n : Nat) (L : List Bk) (w' : World) : Prop := ∃ v', Sto (nw F w w') w' p n v' L ∧ Keeps w w' F

theorem Laid.frozen {w : World} {b : Nat} {t : TypeId} {cs : Array Value} (h : Laid w b t cs) (j : Nat) : w.frozen? ⟨b, j, none⟩ = false := frozen_of_row w b j cs t h
theorem Tab.keeps {w w' : World} {s : Nat → Prop} (h : Tab w) (hk : Keeps w w' s) (h0 : ¬ s 0) : Tab w' := by
  intro j hj
  have hc := h j hj
  have hlt : 0 < w.heap.size := World.block_lt_of_cell? w _ hc
  rw [hk.cell hlt h0]
  exact hc
theorem Sto.p0 {F : Nat → Prop} {w : World} {p n : Nat} {v : Value} {L : List Bk} (h : Sto F w p n v L) : w.cell? ⟨p, 0, none⟩ = some (.int .i64 n) ∧ w.cell? ⟨p, 1, none⟩ = some v ∧ w.frozen? ⟨p, 1, none⟩ = false ∧ p < w.heap.size := by
  refine ⟨?_, ?_, h.laid.frozen 1, h.laid.lt⟩
  · rw [h.laid.cell]; rfl
  · rw [h.laid.cell]; rfl
theorem Sto.ne {F : Nat → Prop} {w : World} {p n : Nat} {v : Value} {L : List Bk} (h : Sto F w p n v L) : some p ≠ v.ownBlock := tag_ne h.laid h.row (by decide)
/-- A row is turned, and stored in its place. -/
theorem Sto.turn {F : Nat → Prop} {w w4 w5 : World} {p n : Nat} {v v' : Value} {L L' : List Bk} (h : Sto F w p n v L) (hb : Below w.heap.size w w4) (hr : Row rB 0 w5 v' L') (hk : Keeps w4 w5 (fun b => v.ownBlock = some b)) (hw : ∀ g, v'.ownBlock = some g → v.ownBlock = some g ∨ w4.heap.size ≤ g) :
    w5.cell? ⟨p, 1, none⟩ = some v ∧ w5.frozen? ⟨p, 1, none⟩ = false ∧ SP F w p n L' (w5.setCell ⟨p, 1, none⟩ v') := by
  have h4 := h.below hb
  have hne := h.ne
  have hp := h.p0.2.2.2
  have hl5 : Laid w5 p 79 #[.int .i64 n, v] := (hk.block p (h4.laid.lt) fun e => hne e.symm).trans h4.laid
  have hp5 := hl5.lt
  refine ⟨by rw [hl5.cell]; rfl, hl5.frozen 1, v', ⟨?_, ?_, Or.inl h.fp, fun g hg => ?_, fun c hc => ?_⟩, ?_⟩
  · have := heap_setCell_same w5 p 1 _ _ v' hl5
    exact this
  · refine (Keeps.set w5 p 1 v').row hr fun g hg e => ?_
    subst e
    rcases hw g hg with h' | h'
    · exact hne h'.symm
    · have := hb.size
      omega
  · rcases hw g hg with h' | h'
    · exact Or.inl (h.fv g h')
    · have := hb.size
      have := (hr.lt g hg).2
      exact Or.inr ⟨by omega, by simpa using this⟩
  · have h1 := hb.size
    have h2 := hk.size
    rcases hc with hc | hc
    · have := h.lt c hc
      simp
      omega
    · exact hc.2
  · have k1 : Keeps w w4 F := Keeps.of_below hb F
    have k2 : Keeps w4 w5 F := hk.mono fun b _ e => h.fv b e
    have k3 : Keeps w5 (w5.setCell ⟨p, 1, none⟩ v') F := (Keeps.set w5 p 1 v').mono fun b _ e => by rw [e]; exact h.fp
    exact (k1.trans k2 fun _ _ h => h).trans k3 fun _ _ h => h
/-- A call that only makes memory. -/
theorem SP.of_below {F : Nat → Prop} {w w' : World} {p n : Nat} {v : Value} {L : List Bk} (h : Sto F w p n v L) (hb : Below w.heap.size w w') : SP F w p n L w' := by
  have h' := h.below hb
  exact ⟨v, ⟨h'.laid, h'.row, Or.inl h.fp, fun g hg => Or.inl (h.fv g hg), fun c hc => hc.elim (h'.lt c) fun e => e.2⟩, Keeps.of_below hb F⟩
/-- A call that only makes memory, ahead of another one. -/
theorem SP.after {F : Nat → Prop} {w w1 w2 : World} {p n : Nat} {L : List Bk} (hF : ∀ c, F c → c < w.heap.size) (hb : Below w.heap.size w w1) (h : SP F w1 p n L w2) : SP F w p n L w2 := by
  obtain ⟨v, h1, h2⟩ := h
  have up : ∀ c, nw F w1 w2 c → nw F w w2 c := fun c hc => hc.elim Or.inl fun e => Or.inr ⟨Nat.le_trans hb.size e.1, e.2⟩
  refine ⟨v, ⟨h1.laid, h1.row, up _ h1.fp, fun g hg => up _ (h1.fv g hg), fun c hc => ?_⟩, (Keeps.of_below hb F).trans h2 fun _ _ e => e⟩
  rcases hc with hc | hc
  · exact Nat.lt_of_lt_of_le (hF c hc) (Nat.le_trans hb.size h2.size)
  · exact hc.2
/-- Two calls. -/
theorem SP.trans {F : Nat → Prop} {w w' w'' : World} {p n : Nat} (hk : Keeps w w' F) {L'' : List Bk} (h : SP (nw F w w') w' p n L'' w'') : SP F w p n L'' w'' := by
  obtain ⟨v'', h1, h2⟩ := h
  refine ⟨v'', ⟨h1.laid, h1.row, ?_, fun g hg => ?_, fun c hc => ?_⟩, hk.trans h2 fun b hb e => ?_⟩
  · rcases h1.fp with (h | h) | h
    · exact Or.inl h
    · exact Or.inr ⟨h.1, Nat.lt_of_lt_of_le h.2 h2.size⟩
    · exact Or.inr ⟨Nat.le_trans hk.size h.1, h.2⟩
  · rcases h1.fv g hg with (h | h) | h
    · exact Or.inl h
    · exact Or.inr ⟨h.1, Nat.lt_of_lt_of_le h.2 h2.size⟩
    · exact Or.inr ⟨Nat.le_trans hk.size h.1, h.2⟩
  · have := h1.lt c
    rcases hc with hc | hc
    · exact this (Or.inl (Or.inl hc))
    · exact hc.2
  · rcases e with e | e
    · exact e
    · omega
end Go.Proofs.YtmmbfgkfidconaaDoor
/- Powers of two: the reference's Power. -/
namespace Go.Proofs.YtmmbfgkfidconaaDoor
open Go.RowKit

/-- Powers of two that fit. -/
def pw (o : Nat) : Int := ((2 ^ o : Nat) : Int)
theorem pw_pos (o : Nat) : 0 < pw o := by unfold pw; have := Nat.two_pow_pos o; omega
theorem pw_succ (o : Nat) : pw (o + 1) = pw o * 2 := by unfold pw; rw [Nat.pow_succ]; simp
theorem pw_le (o : Nat) (h : o ≤ 62) : pw o ≤ 4611686018427387904 := by
  unfold pw
  have := Nat.pow_le_pow_right (show 0 < 2 by decide) h
  simp only [Nat.reducePow] at this
  omega

set_option maxHeartbeats 400000 in
theorem power_any (o : Nat) (w : World) (ho' : o ≤ 62) :
    Calls Tryd.prog 32 #[.int .i64 o] w fun e w' => e = .returned (.int .i64 (pw o)) ∧ w' = w := by
  go_enter Tryd.func32, Tryd.ntmps32
  go_wp2
  go_loop [3, 4] (fun p i => ∃ k : Nat, k ≤ o ∧ i = .int .i64 k ∧ p = .int .i64 (pw k)) (fun _ i => o - (intOf i).toNat)
  case atStart => exact ⟨0, Nat.zero_le _, rfl, rfl⟩
  case round =>
    obtain ⟨k, hk, rfl, rfl⟩ := hrel
    have h1 := pw_pos k
    by_cases hlt : k < o
    · have h2 := pw_le (k + 1) (by omega)
      have h3 := pw_succ k
      have HP : Hid (pw (k + 1) = pw k * 2) := h3
      have h4 : pw k * 2 ≤ 4611686018427387904 := by omega
      clear h3 h2
      go_wp2
      go_round
      case rel => exact ⟨k + 1, by omega, by go_num, by rw [HP.out]⟩
      case measure => simp [intOf]; omega
    · have : k = o := by omega
      subst this
      go_wp2
      go_ret
      exact ⟨rfl, rfl⟩
theorem power_int (z : Int) (w : World) (h0 : 0 ≤ z) (h : z ≤ 62) :
    Calls Tryd.prog 32 #[.int .i64 z] w fun e w' => e = .returned (.int .i64 (pw z.toNat)) ∧ w' = w := by
  have := power_any z.toNat w (by omega)
  rwa [show ((z.toNat : Nat) : Int) = z from by omega] at this

theorem pw_mod (f o : Nat) : ((f : Int) % pw o = 0) ↔ f % 2 ^ o = 0 := by unfold pw; omega
theorem pw_add (f t o : Nat) : ((f : Int) + pw o ≤ t) ↔ f + 2 ^ o ≤ t := by unfold pw; omega
theorem pw_small (o : Nat) (h : o ≤ 21) : pw o ≤ 2097152 := by
  unfold pw
  have := Nat.pow_le_pow_right (show 0 < 2 by decide) h
  simp only [Nat.reducePow] at this
  omega
theorem toNat_succ (o : Nat) : ((o : Int) + 1).toNat = o + 1 := by omega
end Go.Proofs.YtmmbfgkfidconaaDoor
/- The document's store: a row of bools. New, Block, All, Set. -/
namespace Go.Proofs.YtmmbfgkfidconaaDoor
open Go.RowKit

theorem ocell_one (b : Bool) : ∀ u ∈ ([.bool b] : List Value), u.oneCell' = true := by
  intro u hu
  simp only [List.mem_cons, List.not_mem_nil, or_false] at hu
  subst hu
  rfl
def rO : Rec Bool := ⟨4, 1, 1, false, fun b => [.bool b], fun _ => rfl, by decide, ocell_one⟩
theorem rO.kin : Kin Tryd.prog rO 38 := Kin.of (z := .bool false) Tryd.underlying38 (by kernel_rfl) rfl
theorem rO.at {w : World} {b o : Nat} {d : Bool} (h : At rO w b o d) : w.cell? ⟨b, o, none⟩ = some (.bool d) := h 0 (by decide)

set_option maxHeartbeats 1000000 in
theorem refNew_any (n : Nat) (w : World) (h : n ≤ 512) :
    Calls Tryd.prog 31 #[.int .i64 n] w fun e w' => ∃ v, e = .returned v ∧ Row rO w.heap.size w' v (List.replicate n true) ∧ Below w.heap.size w w' := by
  go_enter Tryd.func31, Tryd.ntmps31
  go_wp2
  go_loopw [3, 4] (fun v iv W => ∃ k : Nat, k ≤ n ∧ iv = .int .i64 k ∧ Hid (Row rO w.heap.size W v (List.replicate k true)) ∧ Hid (Below w.heap.size w W)) (fun _ iv _ => n - (intOf iv).toNat)
  case atStart => exact ⟨0, Nat.zero_le _, rfl, Row.nil _ _ _, Below.refl _ _⟩
  case round =>
    obtain ⟨k, hk, rfl, HV, HB⟩ := hrel
    by_cases hlt : k < n
    · have hltz : (k : Int) < (n : Int) := by omega
      have HVA : Hid (Row rO w.heap.size (wr.alloc (.cells #[.bool true] 4)) u3 (List.replicate k true)) := HV.out.below ((Below.refl _ _).alloc (Nat.le_refl _) _)
      have HS : Hid (w.heap.size ≤ wr.heap.size) := HB.out.size
      have HLV : Hid (∀ g, u3.ownBlock = some g → w.heap.size ≤ g) := fun g hg => (HV.out.lt g hg).1
      clear HV
      go_wp2_with (at_builtin; refine list_app rO.kin rfl _ _ rfl w.heap.size _ (List.replicate k true) [true] rfl HVA.out (some ⟨wr.heap.size, 0, none⟩) 1 1 rfl rfl ?a2 ?a3 ?a4 ?a5 ?_)
      case a2 => exact Seen.one (by simp) (At.new (R := rO) _ true _ rfl) 1
      case a3 => simp only [List.length_replicate, List.length_cons, List.length_nil]; unfold maxLen; omega
      case a4 => simp only [List.length_replicate, List.length_cons, List.length_nil, show rO.bytes = 1 from rfl]; omega
      case a5 => have := HS.out; simp; omega
      intro v' w2 hrow hgrow
      have HR2 : Hid (Row rO w.heap.size w2 v' (List.replicate (k + 1) true)) := by rw [List.replicate_succ']; exact hrow
      have HB2 : Hid (Below w.heap.size w w2) := (HB.out.alloc HS.out _).grown hgrow (by have := HS.out; simp; omega) HLV.out
      clear hrow hgrow HVA HB HS HLV
      go_wp2
      go_roundw
      case rel => exact ⟨k + 1, by omega, by go_num, HR2, HB2⟩
      case measure => simp only [intOf]; omega
    · obtain rfl : k = n := by omega
      go_wp2
      go_ret
      exact ⟨_, rfl, HV.out, HB.out⟩

theorem pw_mod' (f k : Nat) : ((f : Int) % pw k == 0) = decide (f % 2 ^ k = 0) := by
  rw [Bool.eq_iff_iff]
  simp only [beq_iff_eq, decide_eq_true_eq]
  exact pw_mod f k
set_option maxHeartbeats 2000000 in
theorem refBlock_any (ao : Option Addr) (n c : Nat) (z o : Int) (w : World) (hn : n ≤ 512) :
    Calls Tryd.prog 13 #[.slice ao n c, .int .i64 z, .int .i64 o] w fun e w' => e = .returned (.bool (hasB n z o)) ∧ w' = w := by
  by_cases h : 0 ≤ o ∧ o ≤ 5 ∧ 0 ≤ z ∧ z < n
  · obtain ⟨h1, h2, h3, h4⟩ := h
    obtain ⟨k, rfl⟩ : ∃ k : Nat, o = k := ⟨o.toNat, by omega⟩
    obtain ⟨f, rfl⟩ : ∃ f : Nat, z = f := ⟨z.toNat, by omega⟩
    have hP := fun w => power_any k w (by omega)
    have hpp := pw_pos k
    have hps := pw_small k (by omega)
    have hne : ¬ (pw k = 0) := by omega
    have hm := pw_mod' f k
    have he : hasB n f k = (decide (f % 2 ^ k = 0) && decide ((f : Int) + pw k ≤ (n : Int))) := by
      unfold hasB
      rw [Bool.eq_iff_iff]
      simp only [decide_eq_true_eq, Bool.and_eq_true, Int.toNat_natCast]
      unfold pw
      omega
    rw [he]
    clear he
    by_cases hd : f % 2 ^ k = 0
    · rw [decide_eq_true hd] at hm ⊢
      rw [Bool.true_and]
      clear hd
      generalize pw k = pk at *
      go_enter Tryd.func13, Tryd.ntmps13
      go_wp2_with (go_at_call 32; refine (hP _).mono ?_; rintro e w5 ⟨rfl, hw⟩; obtain rfl := hw.symm; clear hw)
      go_ret
      exact ⟨rfl, rfl⟩
    · rw [decide_eq_false hd] at hm ⊢
      rw [Bool.false_and]
      clear hd
      generalize pw k = pk at *
      go_enter Tryd.func13, Tryd.ntmps13
      go_wp2_with (go_at_call 32; refine (hP _).mono ?_; rintro e w5 ⟨rfl, hw⟩; obtain rfl := hw.symm; clear hw)
      go_ret
      exact ⟨rfl, rfl⟩
  · have he : hasB n z o = false := by
      unfold hasB
      rw [decide_eq_false_iff_not]
      have := Nat.two_pow_pos o.toNat
      omega
    rw [he]
    clear he
    have hx : (¬ 0 ≤ o) ∨ (0 ≤ o ∧ ¬ o ≤ 5) ∨ (0 ≤ o ∧ o ≤ 5 ∧ ¬ 0 ≤ z) ∨ (0 ≤ o ∧ o ≤ 5 ∧ 0 ≤ z ∧ ¬ z < n) := by omega
    clear h
    rcases hx with h1 | ⟨h1, h2⟩ | ⟨h1, h2, h3⟩ | ⟨h1, h2, h3, h4⟩
    all_goals
      go_enter Tryd.func13, Tryd.ntmps13
      go_wp2
      go_ret
      exact ⟨rfl, rfl⟩

/-- All frames of a block are so. -/
def allM (M : List Bool) (b : Bk) (f : Bool) : Prop := ∀ x, inB b x → M.getD x false = f
set_option maxHeartbeats 2000000 in
theorem refAll_any {B : Nat} {w : World} {v : Value} {M : List Bool} (hr : Row rO B w v M) (hn : M.length ≤ 512) (b : Bk) (h5 : b.2 ≤ 5) (hb : bend b ≤ M.length) (f r : Bool) (hr' : r = true ↔ allM M b f) :
    Calls Tryd.prog 17 #[v, .int .i64 b.1, .int .i64 b.2, .bool f] w fun e w' => e = .returned (.bool r) ∧ w' = w := by
  obtain ⟨ao, c, rfl⟩ := hr.form
  have hP := fun w => power_any b.2 w (by omega)
  have hpp := pw_pos b.2
  have HP : Hid (pw b.2 = ((2 ^ b.2 : Nat) : Int)) := rfl
  have hbe : b.1 + 2 ^ b.2 ≤ M.length := hb
  have HR : Hid (Row rO B w (.slice ao M.length c) M) := hr
  have HA : Hid (r = true ↔ allM M b f) := hr'
  clear hr hr'
  go_enter Tryd.func17, Tryd.ntmps17
  go_wp2
  go_loopw [9] (fun iv W => ∃ j : Nat, j ≤ 2 ^ b.2 ∧ iv = .int .i64 j ∧ W = w ∧ Hid (∀ i, i < j → M.getD (b.1 + i) false = f)) (fun iv _ => 2 ^ b.2 - (intOf iv).toNat)
  case atStart => exact ⟨0, Nat.zero_le _, rfl, rfl, (fun i hi => by omega : ∀ i, i < 0 → M.getD (b.1 + i) false = f)⟩
  case round =>
    obtain ⟨j, hj, rfl, rfl, HI⟩ := hrel
    by_cases hjl : j < 2 ^ b.2
    · have hjz : (j : Int) < pw b.2 := by have := HP.out; omega
      have hlt : b.1 + j < M.length := by omega
      have hltz : (b.1 : Int) + (j : Int) < (M.length : Int) := by omega
      obtain ⟨g, rfl, _, _, hg, _, _, hat⟩ := HR.out.at hlt
      have c0 := rO.at hat
      simp only [show rO.n = 1 from rfl, show rO.zero = false from rfl, Nat.mul_one] at c0
      obtain ⟨m, hm⟩ : ∃ m, M.getD (b.1 + j) false = m := ⟨_, rfl⟩
      rw [hm] at c0
      have htn : ((b.1 : Int) + (j : Int)).toNat = b.1 + j := by omega
      have h0 : (0 : Int) ≤ (b.1 : Int) + (j : Int) := by omega
      have HM : Hid (M.getD (b.1 + j) false = m) := hm
      clear hat hm
      by_cases hmf : m = f
      · have hmf' : (m == f) = true := by simp [hmf]
        have HI2 : Hid (∀ i, i < j + 1 → M.getD (b.1 + i) false = f) := fun i hi => by
          rcases Nat.lt_or_ge i j with h' | h'
          · exact HI.out i h'
          · obtain rfl : i = j := by omega
            rw [HM.out, hmf]
        subst hmf
        go_wp2_with (go_at_call 32; refine (hP _).mono ?_; rintro e w5 ⟨rfl, hw⟩; obtain rfl := hw.symm; clear hw)
        go_roundw
        case rel => exact ⟨j + 1, by omega, by go_num, by first | rfl | trivial, HI2⟩
        case measure => simp only [intOf]; omega
      · have hmf' : (m == f) = false := by simp [hmf]
        have hrf : r = false := by
          cases r with
          | false => rfl
          | true =>
            have := HA.out.1 rfl (b.1 + j) ⟨Nat.le_add_right _ _, by show b.1 + j < b.1 + 2 ^ b.2; omega⟩
            exact absurd (HM.out.symm.trans this) hmf
        subst hrf
        clear hmf
        go_wp2_with (go_at_call 32; refine (hP _).mono ?_; rintro e w5 ⟨rfl, hw⟩; obtain rfl := hw.symm; clear hw)
        go_ret
        exact ⟨rfl, rfl⟩
    · have hjz : ¬ (j : Int) < pw b.2 := by have := HP.out; omega
      have hrt : r = true := HA.out.2 fun x hx => by
        have := HI.out (x - b.1) (by have := hx.1; have : x < b.1 + 2 ^ b.2 := hx.2; omega)
        rwa [show b.1 + (x - b.1) = x by have := hx.1; omega] at this
      subst hrt
      go_wp2_with (go_at_call 32; refine (hP _).mono ?_; rintro e w5 ⟨rfl, hw⟩; obtain rfl := hw.symm; clear hw)
      go_ret
      exact ⟨rfl, rfl⟩
end Go.Proofs.YtmmbfgkfidconaaDoor
/- Rows of groups and of numbers; a zone as it lies. -/
namespace Go.Proofs.YtmmbfgkfidconaaDoor
open Go.RowKit

theorem gcells_one (x : Gp) : ∀ u ∈ ([.int .i64 x.1, .bool x.2] : List Value), u.oneCell' = true := by
  intro u hu
  simp only [List.mem_cons, List.not_mem_nil, or_false] at hu
  rcases hu with rfl | rfl <;> rfl
def rG : Rec Gp := ⟨64, 2, 16, (0, false), fun x => [.int .i64 x.1, .bool x.2], fun _ => rfl, by decide, gcells_one⟩
theorem rG.kin : Kin Tryd.prog rG 62 := Kin.of (z := .agg #[.int .i64 0, .bool false]) Tryd.underlying62 (by kernel_rfl) rfl
theorem rG.at {w : World} {b o : Nat} {d : Gp} (h : At rG w b o d) : w.cell? ⟨b, o, none⟩ = some (.int .i64 d.1) ∧ w.cell? ⟨b, o + 1, none⟩ = some (.bool d.2) := ⟨h 0 (by decide), h 1 (by decide)⟩
theorem icell_one (x : Int) : ∀ u ∈ ([.int .i64 x] : List Value), u.oneCell' = true := by
  intro u hu
  simp only [List.mem_cons, List.not_mem_nil, or_false] at hu
  subst hu
  rfl
def rI : Rec Int := ⟨3, 1, 8, 0, fun x => [.int .i64 x], fun _ => rfl, by decide, icell_one⟩
theorem rI.kin : Kin Tryd.prog rI 39 := Kin.of (z := .int .i64 0) Tryd.underlying39 (by kernel_rfl) rfl
theorem rI.at {w : World} {b o : Nat} {d : Int} (h : At rI w b o d) : w.cell? ⟨b, o, none⟩ = some (.int .i64 d) := h 0 (by decide)
theorem rO.kinB : Kin Tryd.prog rO 37 := Kin.of (z := .bool false) Tryd.underlying37 (by kernel_rfl) rfl

/-- The first n of what a function tells. -/
def ofF {α : Type} (n : Nat) (f : Nat → α) : List α := (List.range n).map f
theorem ofF_len {α : Type} (n : Nat) (f : Nat → α) : (ofF n f).length = n := by simp [ofF]
theorem ofF_get {α : Type} (n : Nat) (f : Nat → α) (z : α) {x : Nat} (h : x < n) : (ofF n f).getD x z = f x := by
  rw [List.getD_eq_getElem?_getD]
  unfold ofF
  rw [List.getElem?_map, List.getElem?_range h]
  rfl
theorem ofF_set {α : Type} (n : Nat) (f : Nat → α) (i : Nat) (a : α) : (ofF n f).set i a = ofF n (fun x => if x = i then a else f x) := by
  apply List.ext_getElem?
  intro x
  unfold ofF
  by_cases hx : x < n
  · by_cases hxi : i = x
    · subst hxi
      rw [List.getElem?_set_self (by simpa using hx), List.getElem?_map, List.getElem?_range hx, Option.map_some, if_pos rfl]
    · rw [List.getElem?_set_ne hxi, List.getElem?_map, List.getElem?_map, List.getElem?_range hx, Option.map_some, Option.map_some, if_neg (Ne.symm hxi)]
  · rw [List.getElem?_eq_none (by simp; omega), List.getElem?_eq_none (by simp; omega)]
theorem ofF_congr {α : Type} {n : Nat} {f g : Nat → α} (h : ∀ x, x < n → f x = g x) : ofF n f = ofF n g := by
  unfold ofF
  apply List.map_congr_left
  intro x hx
  exact h x (by simpa using hx)

/-- A zone at block z: F its own blocks, FZ its store's. -/
structure ZB (F FZ : Nat → Prop) (w : World) (z p g c n : Nat) (v : Value) (L : List Bk) (gs : List Gp) : Prop where
  sto : Sto FZ w p n v L
  ok : Okl n L
  laid : Laid w z 66 #[.pointer (some ⟨p, 0, none⟩), .int .i64 n, .slice (some ⟨g, 0, none⟩) gs.length c]
  row : Row rG 0 w (.slice (some ⟨g, 0, none⟩) gs.length c) gs
  len : gs.length = (n + 7) / 8
  pos : 1 ≤ n
  sub : ∀ c, FZ c → F c
  fz : F z
  fg : F g
  nz : ¬ FZ z
  ng : ¬ FZ g
  lt : ∀ c, F c → c < w.heap.size
def Zo (F : Nat → Prop) (w : World) (z n : Nat) (L : List Bk) (gs : List Gp) : Prop := ∃ FZ p g c v, ZB F FZ w z p g c n v L gs
section
variable {F FZ : Nat → Prop} {w w' : World} {z p g c n : Nat} {v : Value} {L : List Bk} {gs : List Gp}
theorem ZB.keeps {s : Nat → Prop} (h : ZB F FZ w z p g c n v L gs) (hk : Keeps w w' s) (hs : ∀ c, F c → ¬ s c) : ZB F FZ w' z p g c n v L gs :=
  ⟨h.sto.keeps hk fun c hc => hs c (h.sub c hc), h.ok, (hk.block z (h.lt z h.fz) (hs z h.fz)).trans h.laid, hk.row h.row fun g' hg => by
    obtain rfl : g = g' := by simpa [Value.ownBlock] using hg
    exact hs g h.fg, h.len, h.pos, h.sub, h.fz, h.fg, h.nz, h.ng, fun c hc => Nat.lt_of_lt_of_le (h.lt c hc) hk.size⟩
theorem ZB.below (h : ZB F FZ w z p g c n v L gs) (hb : Below w.heap.size w w') : ZB F FZ w' z p g c n v L gs := h.keeps (Keeps.of_below hb (fun _ => False)) fun _ _ e => e
theorem Zo.keeps {s : Nat → Prop} (h : Zo F w z n L gs) (hk : Keeps w w' s) (hs : ∀ c, F c → ¬ s c) : Zo F w' z n L gs := by
  obtain ⟨FZ, p, g, c, v, h⟩ := h
  exact ⟨FZ, p, g, c, v, h.keeps hk hs⟩
theorem Zo.below (h : Zo F w z n L gs) (hb : Below w.heap.size w w') : Zo F w' z n L gs := h.keeps (Keeps.of_below hb (fun _ => False)) fun _ _ e => e
/-- What a call leaves of a zone. -/
def ZP (F : Nat → Prop) (w : World) (z n : Nat) (L : List Bk) (gs : List Gp) (w' : World) : Prop := Zo (nw F w w') w' z n L gs ∧ Keeps w w' F
theorem ZB.sp {L' : List Bk} (h : ZB F FZ w z p g c n v L gs) (hs : SP FZ w p n L' w') (ho : Okl n L') : ∃ v', ZB (nw F w w') (nw FZ w w') w' z p g c n v' L' gs ∧ Keeps w w' FZ := by
  obtain ⟨v', s1, k⟩ := hs
  have hz := h.lt z h.fz
  have hg := h.lt g h.fg
  refine ⟨v', ⟨s1, ho, (k.block z hz h.nz).trans h.laid, k.row h.row fun g' hg' => ?_, h.len, h.pos, ?_, Or.inl h.fz, Or.inl h.fg, ?_, ?_, ?_⟩, k⟩
  · obtain rfl : g = g' := by simpa [Value.ownBlock] using hg'
    exact h.ng
  · rintro c (hc | hc)
    · exact Or.inl (h.sub c hc)
    · exact Or.inr hc
  · rintro (e | e)
    · exact h.nz e
    · omega
  · rintro (e | e)
    · exact h.ng e
    · omega
  · rintro c (hc | hc)
    · exact Nat.lt_of_lt_of_le (h.lt c hc) k.size
    · exact hc.2
theorem ZB.zp {L' : List Bk} (h : ZB F FZ w z p g c n v L gs) (hs : SP FZ w p n L' w') (ho : Okl n L') : ZP F w z n L' gs w' := by
  obtain ⟨v', h', k⟩ := h.sp hs ho
  exact ⟨⟨_, p, g, c, v', h'⟩, k.mono fun b _ e => h.sub b e⟩
theorem ZP.of_below (h : Zo F w z n L gs) (hb : Below w.heap.size w w') : ZP F w z n L gs w' := by
  obtain ⟨FZ, p, g, c, v, h⟩ := h
  exact h.zp (SP.of_below h.sto hb) h.ok
/-- A group's cell is stored. -/
theorem ZB.setg (h : ZB F FZ w z p g c n v L gs) (i o : Nat) (u : Value) (x : Gp) (hi : i < gs.length) (ho : o < 2) (hx : rG.cells x = (rG.cells (gs.getD i (0, false))).set o u) :
    ZB F FZ (w.setCell ⟨g, i * 2 + o, none⟩ u) z p g c n v L (gs.set i x) := by
  have k := Keeps.set w g (i * 2 + o) u
  have hzg : z ≠ g := fun e => by
    obtain ⟨cur, hcur⟩ := h.row.tag (g := g) rfl
    exact ne_of_tag h.laid hcur (by decide) e
  have hr := h.row.put1 i o u x hi ho hx
  rw [show i * rG.n + o = i * 2 + o from rfl] at hr
  refine ⟨h.sto.keeps k fun c hc e => ?_, h.ok, ?_, ?_, by simpa using h.len, h.pos, h.sub, h.fz, h.fg, h.nz, h.ng, fun c hc => by simpa using h.lt c hc⟩
  · rw [e] at hc; exact h.ng hc
  · rw [List.length_set]
    exact (k.block z (h.lt z h.fz) hzg).trans h.laid
  · rw [List.length_set]; exact hr
theorem ZB.cells (h : ZB F FZ w z p g c n v L gs) : w.cell? ⟨z, 0, none⟩ = some (.pointer (some ⟨p, 0, none⟩)) ∧ w.cell? ⟨z, 1, none⟩ = some (.int .i64 n) ∧ w.cell? ⟨z, 2, none⟩ = some (.slice (some ⟨g, 0, none⟩) gs.length c) := ⟨h.laid.cell 0, h.laid.cell 1, h.laid.cell 2⟩
theorem ZB.grp (h : ZB F FZ w z p g c n v L gs) {i : Nat} (hi : i < gs.length) : w.cell? ⟨g, i * 2, none⟩ = some (.int .i64 (gs.getD i (0, false)).1) ∧ w.cell? ⟨g, i * 2 + 1, none⟩ = some (.bool (gs.getD i (0, false)).2) ∧ ∀ j, w.frozen? ⟨g, j, none⟩ = false := by
  obtain ⟨g', e, _, _, _, _, _, hat⟩ := h.row.at hi
  cases e
  have := rG.at hat
  exact ⟨this.1, this.2, h.row.frozen⟩
theorem Zo.ok (h : Zo F w z n L gs) : Okl n L := by
  obtain ⟨FZ, p, g, c, v, h⟩ := h
  exact h.ok
theorem Zo.len (h : Zo F w z n L gs) : gs.length = (n + 7) / 8 ∧ 1 ≤ n ∧ n ≤ 512 := by
  obtain ⟨FZ, p, g, c, v, h⟩ := h
  exact ⟨h.len, h.pos, h.ok.max⟩
end
end Go.Proofs.YtmmbfgkfidconaaDoor
/- Which block is to be taken from; how many frames are free. -/
namespace Go.Proofs.YtmmbfgkfidconaaDoor
open Go.RowKit

/-- Of the first k: the one of the least order that is enough, of the lowest frames. -/
def lst (o : Nat) (L : List Bk) : Nat → Option Nat
  | 0 => none
  | k + 1 => match lst o L k with
    | none => if o ≤ (L.getD k (0, 0)).2 then some k else none
    | some m => if o ≤ (L.getD k (0, 0)).2 ∧ (L.getD k (0, 0)).2 < (L.getD m (0, 0)).2 then some k else some m
theorem lst_spec (o : Nat) (L : List Bk) : ∀ k, match lst o L k with
    | none => ∀ j, j < k → (L.getD j (0, 0)).2 < o
    | some m => m < k ∧ o ≤ (L.getD m (0, 0)).2 ∧ ∀ j, j < k → o ≤ (L.getD j (0, 0)).2 → (L.getD m (0, 0)).2 ≤ (L.getD j (0, 0)).2 ∧ ((L.getD m (0, 0)).2 = (L.getD j (0, 0)).2 → m ≤ j)
  | 0 => by simp [lst]
  | k + 1 => by
    have ih := lst_spec o L k
    cases h : lst o L k with
    | none =>
      rw [h] at ih
      simp only at ih
      by_cases c : o ≤ (L.getD k (0, 0)).2
      · simp only [lst, h, if_pos c]
        refine ⟨by omega, c, fun j hj hjo => ?_⟩
        rcases Nat.lt_or_ge j k with h1 | h1
        · have := ih j h1; omega
        · obtain rfl : j = k := by omega
          exact ⟨Nat.le_refl _, fun _ => Nat.le_refl _⟩
      · simp only [lst, h, if_neg c]
        intro j hj
        rcases Nat.lt_or_ge j k with h1 | h1
        · exact ih j h1
        · obtain rfl : j = k := by omega
          omega
    | some m =>
      rw [h] at ih
      simp only at ih
      obtain ⟨i1, i2, i3⟩ := ih
      by_cases c : o ≤ (L.getD k (0, 0)).2 ∧ (L.getD k (0, 0)).2 < (L.getD m (0, 0)).2
      · simp only [lst, h, if_pos c]
        refine ⟨by omega, c.1, fun j hj hjo => ?_⟩
        rcases Nat.lt_or_ge j k with h1 | h1
        · have := i3 j h1 hjo; omega
        · obtain rfl : j = k := by omega
          exact ⟨Nat.le_refl _, fun _ => Nat.le_refl _⟩
      · simp only [lst, h, if_neg c]
        refine ⟨by omega, i2, fun j hj hjo => ?_⟩
        rcases Nat.lt_or_ge j k with h1 | h1
        · exact i3 j h1 hjo
        · obtain rfl : j = k := by omega
          exact ⟨by omega, fun _ => by omega⟩
theorem lst_lt {o : Nat} {L : List Bk} {k m : Nat} (h : lst o L k = some m) : m < k := by
  have := lst_spec o L k
  rw [h] at this
  exact this.1

end Go.Proofs.YtmmbfgkfidconaaDoor
/- What a store tells; a new one, a clone. -/
namespace Go.Proofs.YtmmbfgkfidconaaDoor
open Go.RowKit

theorem cnt_le (F : Nat → Bool) : ∀ n, cnt F n ≤ n
  | 0 => Nat.le_refl _
  | n + 1 => by
    have := cnt_le F n
    rw [cnt]
    split <;> omega
theorem Okl.take_size {n : Nat} {L : List Bk} (h : Okl n L) (k : Nat) : size (L.take k) ≤ 512 := by
  rw [size_cnt (L.take k) n (h.good.sorted.sublist (List.take_sublist _ _)) fun b hb => h.top b (List.mem_of_mem_take hb)]
  have := cnt_le (covB (L.take k)) n
  have := h.max
  omega
theorem size_take (L : List Bk) (k : Nat) (hk : k < L.length) : size (L.take (k + 1)) = size (L.take k) + 2 ^ (L.getD k (0, 0)).2 := by
  unfold size
  rw [List.take_succ_eq_append_getElem hk, List.map_append, List.sum_append, List.getD_eq_getElem?_getD, List.getElem?_eq_getElem hk]
  simp

set_option maxHeartbeats 1000000 in
theorem free_any {F : Nat → Prop} {w : World} {p n : Nat} {v : Value} {L : List Bk} (hs : Sto F w p n v L) (ho : Okl n L) :
    Calls Tryd.prog 43 #[.pointer (some ⟨p, 0, none⟩)] w (ClonePrB w L) := by
  have hlen := ho.len
  have hC := clone_rB hs.row (by omega)
  obtain ⟨q0, q1, q2, q3⟩ := hs.p0
  clear hs ho
  go_enter Tryd.func43, Tryd.ntmps43
  go_wp2_with fail
  refine hC.mono ?_
  rintro e w1 ⟨v', rfl, hr, hb⟩
  have HR : Hid (Row rB w.heap.size w1 v' L) := hr
  clear hr
  go_wp2
  go_ret
  exact ⟨_, rfl, HR.out, hb⟩

/-- Whether a frame is free. -/
def freeB (L : List Bk) (z : Int) : Bool := decide (0 ≤ z) && covB L z.toNat
theorem upTo_free {L : List Bk} (g : Good L) (z : Int) : upTo L (behind L z.toNat) z = freeB L z := by
  unfold freeB
  by_cases h : 0 ≤ z
  · have hd : decide (0 ≤ z) = true := decide_eq_true h
    rw [hd, Bool.true_and]
    have hi := g.cov_iff z.toNat
    by_cases hc : cov L z.toNat
    · obtain ⟨b, hb, h1⟩ := hi.1 hc
      rw [(covB_iff _ _).2 hc]
      unfold upTo
      rw [hb]
      simp
      omega
    · rw [(covB_false _ _).2 hc]
      unfold upTo
      cases hb : L[behind L z.toNat]? with
      | none => rfl
      | some b =>
        simp only [decide_eq_false_iff_not]
        intro h1
        exact hc (hi.2 ⟨b, hb, by omega⟩)
  · have hd : decide (0 ≤ z) = false := decide_eq_false h
    rw [hd, Bool.false_and]
    unfold upTo
    cases hb : L[behind L z.toNat]? with
    | none => rfl
    | some b =>
      simp only [decide_eq_false_iff_not]
      omega
set_option maxHeartbeats 1000000 in
theorem isFree_any {F : Nat → Prop} {w : World} {p n : Nat} {v : Value} {L : List Bk} (hs : Sto F w p n v L) (ho : Okl n L) (z : Int) :
    Calls Tryd.prog 42 #[.pointer (some ⟨p, 0, none⟩), .int .i64 z] w fun e w' => e = .returned (.bool (freeB L z)) ∧ Below w.heap.size w w' := by
  have hE := endsBehind_any hs ho z
  have hU := fun w (h : Sto F w p n v L) => beginsUpTo_any h (behind L z.toNat) z
  rw [← upTo_free ho.good z]
  have HS : Hid (Sto F w p n v L) := hs
  generalize upTo L (behind L z.toNat) z = r at *
  clear hs ho
  go_enter Tryd.func42, Tryd.ntmps42
  go_wp2_with fail
  refine hE.mono ?_
  rintro e w1 ⟨rfl, hb⟩
  have hV := hU w1 (HS.out.below hb)
  clear hE hU
  go_wp2_with (go_at_call 50; refine hV.mono ?_; rintro e w2 ⟨rfl, hw⟩; obtain rfl := hw.symm; clear hw)
  go_ret
  exact ⟨rfl, hb⟩

/-- A store that is new since w. -/
def NewS (w : World) (n : Nat) (L : List Bk) (q : Nat) (w' : World) : Prop := ∃ v, Sto (fun c => w.heap.size ≤ c ∧ c < w'.heap.size) w' q n v L
set_option maxHeartbeats 2000000 in
theorem cloneS_any {F : Nat → Prop} {w : World} {p n : Nat} {v : Value} {L : List Bk} (hs : Sto F w p n v L) (ho : Okl n L) :
    Calls Tryd.prog 44 #[.pointer (some ⟨p, 0, none⟩)] w fun e w' => ∃ q, e = .returned (.pointer (some ⟨q, 0, none⟩)) ∧ NewS w n L q w' ∧ Below w.heap.size w w' := by
  have hlen := ho.len
  have hC := clone_rB (w := w.drew) (hs.row.below (Below.refl _ _).drew) (by omega)
  obtain ⟨q0, q1, q2, q3⟩ := hs.p0
  clear hs ho
  go_enter Tryd.func44, Tryd.ntmps44
  go_wp2
  go_region_held3 (fun w' => w'.cell? ⟨p, 0, none⟩ = some (.int .i64 n) ∧ w'.cell? ⟨p, 1, none⟩ = some v) (go_keep) (first | (go_at_call 56; refine hC.mono ?_; rintro e w1 ⟨v', rfl, hr, hb⟩; obtain ⟨ao', c', rfl⟩ := hr.form; have hx : ∀ o, w1.cell? ⟨p, o, none⟩ = w.cell? ⟨p, o, none⟩ := (fun o => (bcell hb).1 p o q3)))
  have hb1 : Below w.heap.size w w1 := (Below.refl _ _).drew.trans hb
  have HN : Hid (NewS w n L w1.heap.size (w1.alloc (.cells #[.int .i64 n, .slice ao' L.length c'] 79))) := by
    refine ⟨_, Laid.new _ _ _, (hr.lower (Nat.zero_le _)).below ((Below.refl _ _).alloc (Nat.le_refl _) _), ⟨hb1.size, by simp⟩, fun g hg => ?_, fun c hc => hc.2⟩
    have := hr.lt g hg
    exact ⟨this.1, by simp; omega⟩
  have HB : Hid (Below w.heap.size w (w1.alloc (.cells #[.int .i64 n, .slice ao' L.length c'] 79))) := hb1.alloc hb1.size _
  clear hr hb hx hb1 hC
  go_wp2
  go_ret
  exact ⟨_, rfl, HN.out, HB.out⟩
end Go.Proofs.YtmmbfgkfidconaaDoor
/- The small functions of layer 8. -/
namespace Go.Proofs.YtmmbfgkfidconaaDoor
open Go.RowKit

section
variable {F FZ : Nat → Prop} {w : World} {z p g c n : Nat} {v : Value} {L : List Bk} {gs : List Gp}

theorem zend_any (h : ZB F FZ w z p g c n v L gs) (k : Nat) (hk : k ≤ 1000) :
    Calls Tryd.prog 47 #[.pointer (some ⟨z, 0, none⟩), .int .i64 k] w fun e w' => e = .returned (.int .i64 ((min ((k + 1) * 8) n : Nat) : Int)) ∧ w' = w := by
  obtain ⟨c0, c1, c2⟩ := h.cells
  have hn := h.ok.max
  clear h c0 c2
  go_enter Tryd.func47, Tryd.ntmps47
  go_wp2
  go_ret
  exact ⟨ret_int (by omega), rfl⟩
theorem zhas_any (h : ZB F FZ w z p g c n v L gs) (k : Int) :
    Calls Tryd.prog 40 #[.pointer (some ⟨z, 0, none⟩), .int .i64 k] w fun e w' => e = .returned (.bool (decide (0 ≤ k ∧ k < (gs.length : Int)))) ∧ w' = w := by
  obtain ⟨c0, c1, c2⟩ := h.cells
  clear h c0 c1
  go_enter Tryd.func40, Tryd.ntmps40
  go_wp2
  all_goals (go_ret; refine ⟨ret_bool ?_, rfl⟩)
  all_goals simp
  all_goals omega
theorem zmay_any (s : Int) (w : World) : Calls Tryd.prog 33 #[.int .i64 s] w fun e w' => e = .returned (.bool (decide (0 ≤ s ∧ s ≤ 1))) ∧ w' = w := by
  rcases (show s = 0 ∨ s = 1 ∨ ¬ (0 ≤ s ∧ s ≤ 1) by omega) with rfl | rfl | h
  · go_enter Tryd.func33, Tryd.ntmps33
    go_wp2
    go_ret
    exact ⟨rfl, rfl⟩
  · go_enter Tryd.func33, Tryd.ntmps33
    go_wp2
    go_ret
    exact ⟨rfl, rfl⟩
  · rw [decide_eq_false h]
    have h0 : (s == 0) = false := beq_eq_false_iff_ne.2 (by omega)
    have h1 : (s == 1) = false := beq_eq_false_iff_ne.2 (by omega)
    clear h
    go_enter Tryd.func33, Tryd.ntmps33
    go_wp2
    go_ret
    exact ⟨rfl, rfl⟩
theorem zgroups_any (h : ZB F FZ w z p g c n v L gs) :
    Calls Tryd.prog 24 #[.pointer (some ⟨z, 0, none⟩)] w fun e w' => e = .returned (.int .i64 gs.length) ∧ w' = w := by
  obtain ⟨c0, c1, c2⟩ := h.cells
  clear h c0 c1
  go_enter Tryd.func24, Tryd.ntmps24
  go_wp2
  go_ret
  exact ⟨rfl, rfl⟩
theorem zsort_yes (h : ZB F FZ w z p g c n v L gs) (k : Nat) (hk : k < gs.length) :
    Calls Tryd.prog 25 #[.pointer (some ⟨z, 0, none⟩), .int .i64 k] w fun e w' => e = .returned (.tuple #[.int .i64 (gs.getD k (0, false)).1, .nilIface]) ∧ w' = w := by
  have hH := zhas_any h k
  rw [decide_eq_true (by omega)] at hH
  obtain ⟨c0, c1, c2⟩ := h.cells
  obtain ⟨g0, g1, -⟩ := h.grp hk
  have hkz : (k : Int) < (gs.length : Int) := by omega
  generalize gs.getD k (0, false) = x at *
  clear h c0 c1 g1
  go_enter Tryd.func25, Tryd.ntmps25
  go_wp2_with (go_at_call 40; refine hH.mono ?_; rintro e w5 ⟨rfl, hw⟩; obtain rfl := hw.symm; clear hw)
  go_ret2
  exact ⟨rfl, rfl⟩
theorem zsort_no (h : ZB F FZ w z p g c n v L gs) (k : Int) (hk : ¬ (0 ≤ k ∧ k < (gs.length : Int))) :
    Calls Tryd.prog 25 #[.pointer (some ⟨z, 0, none⟩), .int .i64 k] w fun e w' => e = .returned (.tuple #[.int .i64 0, .iface 28 (.int .i64 1)]) ∧ w' = w := by
  have hH := zhas_any h k
  rw [decide_eq_false hk] at hH
  clear h hk
  go_enter Tryd.func25, Tryd.ntmps25
  go_wp2_with (go_at_call 40; refine hH.mono ?_; rintro e w5 ⟨rfl, hw⟩; obtain rfl := hw.symm; clear hw)
  go_ret2
  exact ⟨rfl, rfl⟩
/-- Whether a group is closed. -/
def gclB (gs : List Gp) (k : Int) : Bool := decide (0 ≤ k ∧ k < (gs.length : Int)) && (gs.getD k.toNat (0, false)).2
theorem gclB_nat (gs : List Gp) {k : Nat} (hk : k < gs.length) : gclB gs k = (gs.getD k (0, false)).2 := by
  unfold gclB
  rw [decide_eq_true (by omega), Bool.true_and, Int.toNat_natCast]
theorem gclB_no (gs : List Gp) {k : Int} (hk : ¬ (0 ≤ k ∧ k < (gs.length : Int))) : gclB gs k = false := by
  unfold gclB
  rw [decide_eq_false hk, Bool.false_and]
theorem zclosed_any (h : ZB F FZ w z p g c n v L gs) (k : Int) :
    Calls Tryd.prog 23 #[.pointer (some ⟨z, 0, none⟩), .int .i64 k] w fun e w' => e = .returned (.bool (gclB gs k)) ∧ w' = w := by
  have hH := zhas_any h k
  by_cases hk : 0 ≤ k ∧ k < (gs.length : Int)
  · obtain ⟨k, rfl⟩ : ∃ m : Nat, k = m := ⟨k.toNat, by omega⟩
    rw [decide_eq_true hk] at hH
    have hkl : k < gs.length := by omega
    have hkz : (k : Int) < (gs.length : Int) := by omega
    rw [gclB_nat gs hkl]
    obtain ⟨c0, c1, c2⟩ := h.cells
    obtain ⟨g0, g1, -⟩ := h.grp hkl
    generalize gs.getD k (0, false) = x at *
    clear h c0 c1 g0 hk
    go_enter Tryd.func23, Tryd.ntmps23
    go_wp2_with (go_at_call 40; refine hH.mono ?_; rintro e w5 ⟨rfl, hw⟩; obtain rfl := hw.symm; clear hw)
    go_ret
    exact ⟨rfl, rfl⟩
  · rw [decide_eq_false hk] at hH
    rw [gclB_no gs hk]
    clear h hk
    go_enter Tryd.func23, Tryd.ntmps23
    go_wp2_with (go_at_call 40; refine hH.mono ?_; rintro e w5 ⟨rfl, hw⟩; obtain rfl := hw.symm; clear hw)
    go_ret
    exact ⟨rfl, rfl⟩
theorem zfree_any (h : ZB F FZ w z p g c n v L gs) :
    Calls Tryd.prog 27 #[.pointer (some ⟨z, 0, none⟩)] w (ClonePrB w L) := by
  have hF := free_any h.sto h.ok
  obtain ⟨c0, c1, c2⟩ := h.cells
  clear h c1 c2
  go_enter Tryd.func27, Tryd.ntmps27
  go_wp2_with fail
  refine hF.mono ?_
  rintro e w1 ⟨vl, rfl, R1, hb1⟩
  have HR : Hid (Row rB w.heap.size w1 vl L ∧ Below w.heap.size w w1) := ⟨R1, hb1⟩
  clear R1 hb1 hF
  go_wp2
  go_ret
  exact ⟨vl, rfl, HR.out.1, HR.out.2⟩
theorem zisFree_any (h : ZB F FZ w z p g c n v L gs) (k : Int) :
    Calls Tryd.prog 26 #[.pointer (some ⟨z, 0, none⟩), .int .i64 k] w fun e w' => e = .returned (.bool (freeB L k)) ∧ Below w.heap.size w w' := by
  have hF := isFree_any h.sto h.ok k
  obtain ⟨c0, c1, c2⟩ := h.cells
  clear h c1 c2
  go_enter Tryd.func26, Tryd.ntmps26
  go_wp2_with fail
  refine hF.mono ?_
  rintro e w1 ⟨rfl, hb1⟩
  clear hF
  go_wp2
  go_ret
  exact ⟨rfl, hb1⟩
end
theorem nat_free' (L : List Bk) (x : Nat) : freeB L x = covB L x := by
  unfold freeB
  rw [decide_eq_true (by omega), Bool.true_and, Int.toNat_natCast]
/-- None of a group's frames is taken. -/
def grpFree (L : List Bk) (n k : Nat) : Prop := ∀ x, k * 8 ≤ x → x < min ((k + 1) * 8) n → cov L x
set_option maxHeartbeats 2000000 in
theorem zgrp_any {F FZ : Nat → Prop} {w : World} {z p g c n : Nat} {v : Value} {L : List Bk} {gs : List Gp} (h : ZB F FZ w z p g c n v L gs) (k : Nat) (hk : k < gs.length) (r : Bool) (hr : r = true ↔ grpFree L n k) :
    Calls Tryd.prog 41 #[.pointer (some ⟨z, 0, none⟩), .int .i64 k] w fun e w' => e = .returned (.bool r) ∧ Below w.heap.size w w' := by
  have hlen := h.len
  have hmx := h.ok.max
  have HZ : Hid (ZB F FZ w z p g c n v L gs) := h
  have HR : Hid (r = true ↔ grpFree L n k) := hr
  obtain ⟨t, ht⟩ : ∃ t, t = min ((k + 1) * 8) n := ⟨_, rfl⟩
  have htk : k * 8 ≤ t := by omega
  have ht2 : t ≤ 512 := by omega
  have HE : Hid (∀ w', Below w.heap.size w w' → Calls Tryd.prog 47 #[.pointer (some ⟨z, 0, none⟩), .int .i64 k] w' fun e w5 => e = .returned (.int .i64 t) ∧ w5 = w') := fun w' hb => by
    rw [ht]
    exact zend_any (HZ.out.below hb) k (by omega)
  have HG : Hid (grpFree L n k ↔ ∀ x, k * 8 ≤ x → x < t → cov L x) := by rw [ht]; exact Iff.rfl
  clear h hr ht
  go_enter Tryd.func41, Tryd.ntmps41
  go_wp2
  go_loopw [5] (fun iv W => ∃ j : Nat, k * 8 ≤ j ∧ j ≤ t ∧ iv = .int .i64 j ∧ Hid (∀ x, k * 8 ≤ x → x < j → cov L x) ∧ Hid (Below w.heap.size w W)) (fun iv _ => t - (intOf iv).toNat)
  case atStart => exact ⟨k * 8, Nat.le_refl _, htk, by go_num, (fun x h1 h2 => by omega : ∀ x, k * 8 ≤ x → x < k * 8 → cov L x), Below.refl _ _⟩
  case round =>
    obtain ⟨j, hj, hjt, rfl, HI, HB⟩ := hrel
    have hE := HE.out wr HB.out
    by_cases hlt : j < t
    · have hltz : (j : Int) < (t : Int) := by omega
      have Z1 := HZ.out.below HB.out
      have hF := isFree_any Z1.sto Z1.ok (j : Int)
      rw [nat_free'] at hF
      obtain ⟨c0, -, -⟩ := Z1.cells
      clear Z1
      cases hc : covB L j with
      | true =>
        rw [hc] at hF
        have HI2 : Hid (∀ x, k * 8 ≤ x → x < j + 1 → cov L x) := fun x h1 h2 => by
          rcases Nat.lt_or_ge x j with h' | h'
          · exact HI.out x h1 h'
          · rw [show x = j by omega]; exact (covB_iff _ _).1 hc
        clear HI hc
        go_wp2_with (go_at_call 47; refine hE.mono ?_; rintro e w5 ⟨rfl, hw⟩; obtain rfl := hw.symm; clear hw)
        refine hF.mono ?_
        rintro e w5 ⟨rfl, hb5⟩
        have HB5 : Hid (Below w.heap.size w w5) := below_call' HB.out hb5
        clear hF hE hb5 c0 HB
        go_wp2
        go_roundw
        case rel => exact ⟨j + 1, by omega, by omega, by go_num, HI2, HB5⟩
        case measure => simp only [intOf]; omega
      | false =>
        rw [hc] at hF
        have hrf : r = false := by
          cases r with
          | false => rfl
          | true => exact absurd ((HG.out.1 (HR.out.1 rfl)) j hj hlt) ((covB_false _ _).1 hc)
        subst hrf
        clear hc
        go_wp2_with (go_at_call 47; refine hE.mono ?_; rintro e w5 ⟨rfl, hw⟩; obtain rfl := hw.symm; clear hw)
        refine hF.mono ?_
        rintro e w5 ⟨rfl, hb5⟩
        have HB5 : Hid (Below w.heap.size w w5) := below_call' HB.out hb5
        clear hF hE hb5 c0 HB
        go_wp2
        go_ret
        exact ⟨rfl, HB5.out⟩
    · have hltz : ¬ (j : Int) < (t : Int) := by omega
      have hrt : r = true := HR.out.2 (HG.out.2 fun x h1 h2 => HI.out x h1 (by omega))
      subst hrt
      go_wp2_with (go_at_call 47; refine hE.mono ?_; rintro e w5 ⟨rfl, hw⟩; obtain rfl := hw.symm; clear hw)
      go_ret
      exact ⟨rfl, HB.out⟩
end Go.Proofs.YtmmbfgkfidconaaDoor
/- 'make([]T, n)': a row of zeros. No word of the program. -/
namespace Go.Proofs.YtmmbfgkfidconaaDoor
open Go.RowKit

theorem made_at (zc : Array Value) (m j : Nat) (h : j < m) : (madeCells zc m)[j]? = some (zc[j % zc.size]!) := by
  unfold madeCells
  rw [Array.getElem?_map, Array.getElem?_range, if_pos h]
  rfl
section
variable {P : Program} {α : Type} {R : Rec α} {s : TypeId}
theorem run_makeR (k : Kin P R s) (hz : ∀ i z, P.info? R.t = some i → i.zero = some z → z.cells = (R.cells R.zero).toArray) (w : World) (n : Nat) (hm : n ≤ maxLen) (hb : R.bytes * n ≤ 281474976710656) :
    ∃ cs : Array Value, (Instr.makeSlice s (.int .i64 n) (.int .i64 n)).run P w = .ok (.slice (some ⟨w.heap.size, 0, none⟩) n n) (w.alloc (.cells cs R.t)) ∧ Row R w.heap.size (w.alloc (.cells cs R.t)) (.slice (some ⟨w.heap.size, 0, none⟩) n n) (List.replicate n R.zero) := by
  obtain ⟨i, z, hi, hz0, hz1, hz2, hzs⟩ := k.inf
  have hzc := hz i z hi hz0
  have hb' : (i.bytes : Int) * (n : Int) ≤ 281474976710656 := by
    have h : ((i.bytes * n : Nat) : Int) ≤ 281474976710656 := by rw [hz2]; omega
    rwa [Int.natCast_mul] at h
  have hr := run_make (P := P) w s R.t i z k.und hi hz0 .i64 .i64 n n (by omega) (Int.le_refl _) hb' (by unfold maxLen at hm; omega)
  simp only [Int.toNat_natCast] at hr
  refine ⟨_, hr, ?_⟩
  have hlen : (List.replicate n R.zero).length = n := by simp
  have := Row.of_cells (R := R) (B := w.heap.size) (w' := w.alloc (.cells (madeCells z.cells (n * i.size)) R.t)) (g := w.heap.size) (c := n) (l' := List.replicate n R.zero) (Nat.le_refl _) (heap_alloc_new w _) (by rw [hlen]; exact Nat.le_refl _) hm (by rw [size_madeCells, hz1]) (by
    intro q hq j hj
    rw [hlen] at hq
    have hlt : q * R.n + j < n * R.n := by
      have : (q + 1) * R.n ≤ n * R.n := Nat.mul_le_mul_right _ hq
      rw [Nat.add_mul] at this
      omega
    rw [hz1, made_at _ _ _ hlt, hzc]
    have e1 : (q * R.n + j) % (R.cells R.zero).toArray.size = j := by
      rw [List.size_toArray, R.len, Nat.mul_comm, Nat.mul_add_mod, Nat.mod_eq_of_lt hj]
    rw [e1, List.getD_eq_getElem?_getD, List.getElem?_replicate, if_pos hq, Option.getD_some]
    have hjl : j < (R.cells R.zero).length := by rw [R.len]; exact hj
    rw [List.getElem?_eq_getElem hjl]
    simp [hjl])
  rwa [hlen] at this
end
end Go.Proofs.YtmmbfgkfidconaaDoor
/- The orders of all rooms, each at its first frame. -/
namespace Go.Proofs.YtmmbfgkfidconaaDoor
open Go.RowKit

/-- Whether a block's room begins at x. -/
abbrev onG (b : Bk) (x : Nat) : Prop := b.1 ≤ x ∧ x < bend b ∧ (x - b.1) % 2 ^ min b.2 3 = 0
def rmS (L : List Bk) (x : Nat) : Int := L.foldl (fun a b => if onG b x then ((min b.2 3 : Nat) : Int) else a) (-1)
theorem rmS_snoc (L : List Bk) (b : Bk) (x : Nat) : rmS (L ++ [b]) x = if onG b x then ((min b.2 3 : Nat) : Int) else rmS L x := by
  unfold rmS
  rw [List.foldl_append]
  rfl
theorem rmS_cases (L : List Bk) (x : Nat) : (∃ b ∈ L, onG b x ∧ rmS L x = ((min b.2 3 : Nat) : Int)) ∨ ((∀ b ∈ L, ¬ onG b x) ∧ rmS L x = -1) := by
  obtain ⟨n, hn⟩ : ∃ n, n = L.length := ⟨_, rfl⟩
  induction n generalizing L with
  | zero =>
    obtain rfl := List.eq_nil_of_length_eq_zero hn.symm
    exact Or.inr ⟨by simp, rfl⟩
  | succ n ih =>
    obtain ⟨M, b, rfl⟩ : ∃ M b, L = M ++ [b] := ⟨L.dropLast, L.getLast (by intro h; rw [h] at hn; simp at hn), (List.dropLast_concat_getLast _).symm⟩
    have := ih M (by simp at hn; exact hn)
    rw [rmS_snoc]
    by_cases h : onG b x
    · rw [if_pos h]
      exact Or.inl ⟨b, by simp, h, rfl⟩
    · rw [if_neg h]
      rcases this with ⟨c, hc, h1, h2⟩ | ⟨h1, h2⟩
      · exact Or.inl ⟨c, by simp [hc], h1, h2⟩
      · refine Or.inr ⟨fun c hc => ?_, h2⟩
        rcases List.mem_append.1 hc with hc | hc
        · exact h1 c hc
        · obtain rfl := List.mem_singleton.1 hc
          exact h
theorem onG_rm {n : Nat} {L : List Bk} (ho : Okl n L) {b : Bk} (hb : b ∈ L) {x : Nat} (h : onG b x) : Rm L (x, min b.2 3) := by
  obtain ⟨h1, h2, h3⟩ := h
  have hal := ho.good.al b hb
  refine ⟨b, hb, ?_⟩
  rcases Nat.lt_or_ge 3 b.2 with c | c
  · refine Or.inr ⟨c, by show min b.2 3 = 3; omega, ?_, h1, h2⟩
    rw [show min b.2 3 = 3 by omega] at h3
    obtain ⟨k, hk⟩ := pow_gt3 c
    obtain ⟨i, hi⟩ := hal.2
    rw [hk, Nat.mul_assoc] at hi
    generalize 2 * k * i = y at *
    have h3' : (x - b.1) % 8 = 0 := h3
    show 8 ∣ x
    exact Nat.dvd_of_mod_eq_zero (by omega)
  · refine Or.inl ⟨c, ?_⟩
    rw [show min b.2 3 = b.2 by omega] at h3 ⊢
    have e : bend b = b.1 + 2 ^ b.2 := rfl
    rw [Nat.mod_eq_of_lt (by omega)] at h3
    exact Prod.ext (by show x = b.1; omega) rfl
theorem rm_onG {n : Nat} {L : List Bk} (ho : Okl n L) {r : Bk} (h : Rm L r) : ∃ b ∈ L, onG b r.1 := by
  obtain ⟨b, hb, h⟩ := h
  refine ⟨b, hb, ?_⟩
  have hbe := bend_pos b
  rcases h with ⟨h1, rfl⟩ | ⟨h1, h2, h3, h4, h5⟩
  · exact ⟨Nat.le_refl _, hbe, by simp⟩
  · refine ⟨h4, h5, ?_⟩
    rw [show min b.2 3 = 3 by omega]
    have hal := ho.good.al b hb
    obtain ⟨k, hk⟩ := pow_gt3 h1
    obtain ⟨i, hi⟩ := hal.2
    rw [hk, Nat.mul_assoc] at hi
    generalize 2 * k * i = y at *
    show (r.1 - b.1) % 8 = 0
    omega
/-- What stands at a frame tells its room. -/
theorem rmS_iff {n : Nat} {L : List Bk} (ho : Okl n L) (x o : Nat) : rmS L x = (o : Int) ↔ Rm L (x, o) := by
  constructor
  · intro h
    rcases rmS_cases L x with ⟨b, hb, h1, h2⟩ | ⟨_, h2⟩
    · have := onG_rm ho hb h1
      rw [show o = min b.2 3 by omega]
      exact this
    · omega
  · intro h
    rcases rmS_cases L x with ⟨b, hb, h1, h2⟩ | ⟨h1, _⟩
    · have h3 := onG_rm ho hb h1
      have := h3.inj ho h rfl
      rw [h2, show min b.2 3 = o from congrArg Prod.snd this]
    · obtain ⟨b, hb, h2⟩ := rm_onG ho h
      exact absurd h2 (h1 b hb)
theorem rmS_lt {L : List Bk} (x : Nat) : rmS L x = -1 ∨ ∃ o : Nat, o ≤ 3 ∧ rmS L x = (o : Int) := by
  rcases rmS_cases L x with ⟨b, hb, h1, h2⟩ | ⟨_, h2⟩
  · exact Or.inr ⟨min b.2 3, by omega, h2⟩
  · exact Or.inl h2
/-- The first j rooms of a block, beside others. -/
abbrev onJ (b : Bk) (j : Nat) (x : Nat) : Prop := b.1 ≤ x ∧ x < b.1 + j * 2 ^ min b.2 3 ∧ (x - b.1) % 2 ^ min b.2 3 = 0
def rmJ (L : List Bk) (b : Bk) (j : Nat) (x : Nat) : Int := if onJ b j x then ((min b.2 3 : Nat) : Int) else rmS L x
theorem rmJ_zero (L : List Bk) (b : Bk) (n : Nat) : ofF n (rmJ L b 0) = ofF n (rmS L) := by
  apply ofF_congr
  intro x _
  unfold rmJ
  rw [if_neg]
  rintro ⟨h1, h2, _⟩
  omega
theorem rmJ_succ (L : List Bk) (b : Bk) (j : Nat) (n : Nat) : (ofF n (rmJ L b j)).set (b.1 + j * 2 ^ min b.2 3) ((min b.2 3 : Nat) : Int) = ofF n (rmJ L b (j + 1)) := by
  rw [ofF_set]
  apply ofF_congr
  intro x _
  have hp := Nat.two_pow_pos (min b.2 3)
  have hs : (j + 1) * 2 ^ min b.2 3 = j * 2 ^ min b.2 3 + 2 ^ min b.2 3 := by rw [Nat.add_mul, Nat.one_mul]
  unfold rmJ
  by_cases hx : x = b.1 + j * 2 ^ min b.2 3
  · rw [if_pos hx, if_pos]
    refine ⟨by omega, by omega, ?_⟩
    rw [hx, Nat.add_sub_cancel_left]
    exact Nat.mul_mod_left _ _
  · rw [if_neg hx]
    have e : onJ b (j + 1) x ↔ onJ b j x := by
      unfold onJ
      constructor
      · rintro ⟨h1, h2, h3⟩
        refine ⟨h1, ?_, h3⟩
        rcases Nat.lt_or_ge x (b.1 + j * 2 ^ min b.2 3) with c | c
        · exact c
        · exfalso
          obtain ⟨i, hi⟩ := Nat.dvd_of_mod_eq_zero h3
          generalize 2 ^ min b.2 3 = p at *
          have hi' : x = b.1 + p * i := by omega
          rw [Nat.mul_comm] at c hx h2
          have k1 : j ≤ i := mul_le_of (m := p) (by omega)
          have k2 : p * i < p * j + p := by rw [Nat.mul_comm p (j + 1), hs, Nat.mul_comm j p] at h2; omega
          have k3 := mul_le_of k2
          have : i = j := by omega
          subst this
          exact hx (by rw [hi'])
      · rintro ⟨h1, h2, h3⟩
        exact ⟨h1, by omega, h3⟩
    by_cases h : onJ b j x
    · rw [if_pos h, if_pos (e.2 h)]
    · rw [if_neg h, if_neg fun h' => h (e.1 h')]
theorem rmJ_all (L : List Bk) (b : Bk) (j n : Nat) (h : j * 2 ^ min b.2 3 = 2 ^ b.2) : ofF n (rmJ L b j) = ofF n (rmS (L ++ [b])) := by
  apply ofF_congr
  intro x _
  rw [rmS_snoc]
  unfold rmJ
  have e : onJ b j x ↔ onG b x := by
    unfold onJ onG bend
    rw [h]
  by_cases h : onG b x
  · rw [if_pos h, if_pos (e.2 h)]
  · rw [if_neg h, if_neg fun h' => h (e.1 h')]
theorem take_snoc (L : List Bk) (k : Nat) (hk : k < L.length) : L.take (k + 1) = L.take k ++ [L.getD k (0, 0)] := by
  rw [List.take_succ_eq_append_getElem hk, List.getD_eq_getElem?_getD, List.getElem?_eq_getElem hk]
  rfl
end Go.Proofs.YtmmbfgkfidconaaDoor
