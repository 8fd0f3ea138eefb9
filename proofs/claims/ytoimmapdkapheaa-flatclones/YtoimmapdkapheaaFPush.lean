/- One more space of the document's; Make. -/
import Derived.Test.YtoimmapdkapheaaFMod
import Derived.Test.YtoimmapdkapheaaAOf
namespace Go.Proofs.Ytoimmapdkapheaa
set_option maxRecDepth 4000
open Go.RowKit

theorem row_turn {α : Type} {R : Rec α} {F : Nat → Prop} {w w' : World} {v v' : Value} {l l' : List α} (h : (Th.row R v l).In F w) (hr : Row R 0 w' v' l') (hg : w.grownBy w' v.ownBlock) (hn : ∀ g, v'.ownBlock = some g → v.ownBlock = some g ∨ w.heap.size ≤ g) : Bec F w (.row R v' l') w' :=
  ⟨fun c => v'.ownBlock = some c, fun c hc => (hn c hc).imp (fun e => (h.1 c).2 e) id, row_in hr, (Keeps.of_grown hg).mono fun c _ e => (h.1 c).2 e⟩
/-- 'append' at a step of a region that draws, where its run is known. -/
theorem step_appR {P : Program} {s : TypeId} {ops : Array Oper} {o : Oper} {a : Act} {w : World} {K : Act → World → Prop} {Q : Exit → Act → World → Prop} {E : Prop} (hg : o.guard = none) (x y : Operand) (ho : o.op = .call { callee := .builtin .append, args := #[x, y], argTypes := #[s, s] }) (v u : Value) (hv : a.eval x = v) (hu : a.eval y = u) {v' : Value} {w' : World}
    (hr : (Builtin.append_ #[s, s] o.type #[v, u]).run P w = .ok v' w') (hK : K (a.put o.dst v') w') : if Region.wanted o (yielded ops a.tmps) = true then Oper.wp P o a w K Q else E := by
  rw [if_pos (show Region.wanted o (yielded ops a.tmps) = true by simp [Region.wanted, hg])]
  unfold Oper.wp execOp
  simp only [ho, resolve, invoke, builtin, Sem.run_bind, Sem.run_pure, Result.andThen_ok, List.map_toArray, List.map_cons, List.map_nil, hv, hu, hr]
  exact hK
theorem heads_app (T : Sps) (x : SpV × Sp) : heads (T ++ [x]) = heads T ++ [x.1] := by simp [heads]
theorem spTs_app (T : Sps) (x : SpV × Sp) : spTs (T ++ [x]) = spTs T ++ [spT x] := by simp [spTs]
theorem nod_app {T : Sps} {x : SpV × Sp} (h : nodT T) (hx : lkT T x.1.n = none) : nodT (T ++ [x]) := by
  have hx' := (lk_none T x.1.n).1 hx
  intro i j hi hj e
  rw [List.length_append, List.length_singleton] at hi hj
  have g1 : ∀ k, k < T.length → (T ++ [x]).getD k zT = T.getD k zT := fun k hk => by
    rw [List.getD_eq_getElem?_getD, List.getD_eq_getElem?_getD, List.getElem?_append_left hk]
  have g2 : (T ++ [x]).getD T.length zT = x := by
    rw [List.getD_eq_getElem?_getD, List.getElem?_append_right (Nat.le_refl _)]
    simp
  by_cases hi' : i < T.length
  · by_cases hj' : j < T.length
    · rw [g1 i hi', g1 j hj'] at e
      exact h i j hi' hj' e
    · have : j = T.length := by omega
      subst this
      rw [g1 i hi', g2] at e
      exact absurd e (hx' i hi')
  · have : i = T.length := by omega
    subst this
    by_cases hj' : j < T.length
    · rw [g1 j hj', g2] at e
      exact absurd e.symm (hx' j hj')
    · omega
/-- 'append(xs, ys...)': in place, or all that was there stays. -/
theorem app_stays {P : Program} {α : Type} {R : Rec α} {s : TypeId} (k : Kin P R s) (w : World) (ty : TypeId) (B : Nat) (v : Value) (l1 l2 : List α) (h : Row R B w v l1) (ao : Option Addr) (c : Nat) (hs : Seen R w ao c l2) (hm : l1.length + l2.length ≤ maxLen) (hb : (l1.length + l2.length) * R.bytes ≤ 140737488355328) (_ : B ≤ w.heap.size)
    {v' : Value} {w' : World} (hr : (Builtin.append_ #[s, s] ty #[v, .slice ao l2.length c]).run P w = .ok v' w') : v'.ownBlock = v.ownBlock ∨ Below w.heap.size w w' := by
  obtain ⟨i, z, hi, hz0, hz1, hz2, hzs⟩ := k.inf
  cases ao with
  | none =>
    obtain ⟨rfl, rfl⟩ := hs.1 rfl
    have hr2 := run_append_owned_none (P := P) w B s ty R.t i R.n k.und hi _ _ _ h
    have e := hr.symm.trans hr2
    cases e
    exact Or.inl rfl
  | some ad =>
    rcases h.cases with ⟨rfl, rfl⟩ | ⟨g, c1, cur, rfl, hB1, hlt, hg, hlc, hcm, hs1, ht⟩
    · by_cases h0 : l2.length = 0
      · have hl2 := List.eq_nil_of_length_eq_zero h0
        subst hl2
        have hr2 : (Builtin.append_ #[s, s] ty #[.slice none 0 0, .slice (some ad) 0 c]).run P w = .ok (.slice none 0 0) w := by
          simp [Builtin.append_, run_underlying k.und, sizeOf, typeInfo, hi, Builtin.lenOf, Builtin.firstCells, loadCells, loadCellsFrom]
        have e := hr.symm.trans hr2
        cases e
        exact Or.inl rfl
      · have hr2 := run_append_nil (P := P) w s ty R.t i z k.und hi hz0 ad l2.length c (R.all l2) (by rw [hz1]; exact R.all_len l2) (hs.news ad rfl) (by omega) (by unfold maxLen at hm; simp at hm; omega) (by rw [hz2]; simp at hb; omega)
        have e := hr.symm.trans hr2
        cases e
        exact Or.inr ((Below.refl w.heap.size w).drew.alloc (Nat.le_refl _) _)
    · by_cases hroom : l1.length + l2.length ≤ c1
      · have hr2 := run_append_room (P := P) w s ty R.t i k.und hi g l1.length c1 cur hg ad l2.length c (R.all l2) (by rw [hz1]; exact R.all_len l2) (hs.news ad rfl) (R.all_oneCell l2) hroom (by rw [hz1, R.all_len, hs1, ← Nat.add_mul]; exact Nat.mul_le_mul_right _ hroom)
        have e := hr.symm.trans hr2
        cases e
        exact Or.inl rfl
      · have hr2 := run_append_grow (P := P) w s ty R.t i z k.und hi hz0 ⟨g, 0, none⟩ l1.length c1 (R.all l1) (by rw [hz1]; exact R.all_len l1) (World.ownsRow.cells (g := g) h rfl) ad l2.length c (R.all l2) (by rw [hz1]; exact R.all_len l2) (hs.news ad rfl) (by omega) (by unfold maxLen at hm; omega) (by rw [hz2]; exact growslice_fits (by omega) hb)
        have e := hr.symm.trans hr2
        cases e
        exact Or.inr ((Below.refl w.heap.size w).drew.alloc (Nat.le_refl _) _)
/-- What the store of a longer list leaves. -/
structure PushP (F : Nat → Prop) (w W : World) (q : Nat) (v : Value) (T : Sps) (A' : Wd) (b : Nat) (v' : Value) (w4 : World) : Prop where
  run : (Builtin.append_ #[27, 27] 27 #[v, .slice (some ⟨b, 0, none⟩) 1 1]).run Try.prog W = .ok v' w4
  form : ∃ ao n c, v' = .slice ao n c
  cell : w4.cell? ⟨q, 0, none⟩ = some v
  frz : w4.frozen? ⟨q, 0, none⟩ = false
  old : ∀ g, v.ownBlock = some g → ∀ i, i < T.length → At rSp w4 g (i * 3) (T.getD i zT).1
  bec : Bec F w (FmT q A') (w4.setCell ⟨q, 0, none⟩ v')
theorem fm_push {F : Nat → Prop} {w W2 : World} {q : Nat} {v : Value} {T : Sps} {A : Wd} {x : SpV} {s : Sp} (h : Bec F w ((spT (x, s)).and (FmX q v T)) W2) (hT : FmOk T A) (hn : okN x.n) (hs : s.ok) (hx : A x.n = none) :
    ∃ v' w4, PushP F w (W2.alloc (.cells #[.int .i64 x.n, x.vp, x.vw] 59)) q v T (A.set x.n (some s)) W2.heap.size v' w4 := by
  have hb1 := new_below W2 (.cells #[.int .i64 x.n, x.vp, x.vw] 59)
  have h1 := h.below hb1
  have hfew := hT.few
  obtain ⟨B, b1, b2⟩ := (h1.imp (Th.le.trans (and_left _ _ _) (Th.le.trans (and_mono (Th.le.refl _) (and_left _ _ _)) (and_left _ _ _)))).open
  obtain ⟨B2, b3, b4⟩ := h1.next
  obtain ⟨C, D, e1, e2, c1, c2⟩ := b3
  have hbox := FmX.box c2
  have hrow := FmX.row c2
  have hnew := At.new (R := rSp) W2 x (.cells #[.int .i64 x.n, x.vp, x.vw] 59) rfl
  have hseen : Seen rSp (W2.alloc (.cells #[.int .i64 x.n, x.vp, x.vw] 59)) (some ⟨W2.heap.size, 0, none⟩) 1 [x] := Seen.one (by simp) hnew 1
  obtain ⟨v', w4, r0, r1, r2, r3, -⟩ := run_app' rSp.kin (W2.alloc (.cells #[.int .i64 x.n, x.vp, x.vw] 59)) 27 0 v (heads T) [x] hrow (some ⟨W2.heap.size, 0, none⟩) 1 hseen (by rw [heads_len]; unfold maxLen; simp; omega) (by rw [heads_len]; simp only [rSp, List.length_singleton]; omega) (Nat.zero_le _)
  have hne : some q ≠ v.ownBlock := fun e => by
    obtain ⟨cur, hc⟩ := hrow.tag e.symm
    exact absurd rfl (ne_of_tag hbox hc (by decide))
  have hbox4 : Laid w4 q 29 #[v] := hbox.kept r2 hne
  refine ⟨v', w4, r0, ?_, by rw [hbox4.cell]; rfl, frozen_of_row w4 q 0 _ _ hbox4, fun g hg i hi => ?_, ?_⟩
  · obtain ⟨ao, c, e⟩ := r1.form
    exact ⟨ao, _, c, e⟩
  · obtain ⟨ao0, c0, rfl⟩ := hrow.form
    rcases app_stays rSp.kin _ _ 0 _ (heads T) [x] hrow (some ⟨W2.heap.size, 0, none⟩) 1 hseen (by rw [heads_len]; unfold maxLen; simp; omega) (by rw [heads_len]; simp only [rSp, List.length_singleton]; omega) (Nat.zero_le _) r0 with e | e
    · obtain ⟨ao, c, rfl⟩ := r1.form
      obtain ⟨g', rfl, -, -, -, -, -, hat⟩ := r1.at (k := i) (by rw [List.length_append, heads_len]; simp; omega)
      rw [hg] at e
      simp [Value.ownBlock] at e
      subst e
      have e2 : (heads T ++ [x]).getD i rSp.zero = (T.getD i zT).1 := by
        rw [List.getD_eq_getElem?_getD, List.getElem?_append_left (by rw [heads_len]; exact hi), ← List.getD_eq_getElem?_getD]
        exact heads_get T hi
      rw [e2] at hat
      exact hat
    · obtain ⟨g', rfl, -, -, hlt, -, -, hat⟩ := hrow.at (k := i) (by rw [heads_len]; exact hi)
      simp [Value.ownBlock] at hg
      subst hg
      rw [show (heads T).getD i rSp.zero = (T.getD i zT).1 from heads_get T hi] at hat
      exact hat.same (e.block _ hlt)
  · have k1 := (b2 (row_turn b1 r1 r2 r3)).imp (and_left _ _ _)
    obtain ⟨G, k2, k3⟩ := k1.open
    refine (k3 (box_put k2 0 v')).imp fun {F' w'} k => ⟨(v', T ++ [(x, s)]), ⟨?_, hT.ok.set hn hs, nod_app hT.nod (by rw [hT.eq]; exact hx)⟩, ?_⟩
    · show lkT (T ++ [(x, s)]) = _
      rw [lk_app T (x, s) (by rw [hT.eq]; exact hx), hT.eq]
    · show (FmX q v' (T ++ [(x, s)])).In F' w'
      unfold FmX
      rw [heads_app, spTs_app]
      exact and_mono (Th.le.refl _) (and_mono (Th.le.refl _) (all_snoc _ _)) k
end Go.Proofs.Ytoimmapdkapheaa
