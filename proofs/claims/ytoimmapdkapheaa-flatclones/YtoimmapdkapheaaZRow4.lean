/- Rows of records: a part of one is replaced. No word of the program. -/
import Derived.Test.YtoimmapdkapheaaZRow3
import Derived.Laws.AppendOwn
namespace Go.Proofs.Ytoimmapdkapheaa
set_option maxRecDepth 4000
open Go.RowKit

theorem getD_repl {α : Type} (z : α) (l M : List α) (i j k : Nat) (hi : i ≤ l.length) : (l.take i ++ (M ++ l.drop j)).getD k z = if k < i then l.getD k z else if k < i + M.length then M.getD (k - i) z else l.getD (j + (k - (i + M.length))) z := by
  simp only [List.getD_eq_getElem?_getD]
  by_cases h1 : k < i
  · rw [if_pos h1, List.getElem?_append_left (by simp; omega), List.getElem?_take_of_lt h1]
  · rw [if_neg h1, List.getElem?_append_right (by simp; omega), List.length_take, Nat.min_eq_left hi]
    by_cases h2 : k < i + M.length
    · rw [if_pos h2, List.getElem?_append_left (by omega)]
    · rw [if_neg h2, List.getElem?_append_right (by omega), List.getElem?_drop, show k - i - M.length = k - (i + M.length) by omega]
theorem len_repl {α : Type} (l M : List α) (i j : Nat) (hi : i ≤ l.length) : (l.take i ++ (M ++ l.drop j)).length = i + M.length + (l.length - j) := by
  simp only [List.length_append, List.length_take, List.length_drop]
  omega
section
variable {α : Type} (R : Rec α)
theorem getD_drop (l : List α) (j k : Nat) : (l.drop j).getD k R.zero = l.getD (j + k) R.zero := by simp only [List.getD_eq_getElem?_getD, List.getElem?_drop]
/-- The tail first, then what is new. -/
theorem repl_cells (cur : Array Value) (c i j : Nat) (l M : List α) (hs : cur.size = c * R.n) (hfit : i + M.length + (l.length - j) ≤ c) (hi : i ≤ l.length)
    (hcur : ∀ k, k < i → ∀ t, t < R.n → cur[k * R.n + t]? = (R.cells (l.getD k R.zero))[t]?) :
    ∀ k, k < (l.take i ++ (M ++ l.drop j)).length → ∀ t, t < R.n → (wrs (wrs cur ((i + M.length) * R.n) (R.all (l.drop j))) (i * R.n) (R.all M))[k * R.n + t]? = (R.cells ((l.take i ++ (M ++ l.drop j)).getD k R.zero))[t]? := by
  intro k hk t ht
  rw [len_repl l M i j hi] at hk
  rw [getD_repl R.zero l M i j k hi, wrs_at R _ i c M (by rw [wrs_size]; exact hs) (by omega) k t ht]
  by_cases h1 : k < i
  · rw [if_neg (by omega), if_pos h1, wrs_at R _ _ c _ hs (by simp; omega) k t ht, if_neg (by omega)]
    exact hcur k h1 t ht
  · rw [if_neg h1]
    by_cases h2 : k < i + M.length
    · rw [if_pos ⟨by omega, h2⟩, if_pos h2]
    · rw [if_neg (by omega), if_neg h2, wrs_at R _ _ c _ hs (by simp; omega) k t ht, if_pos (by simp; omega), getD_drop]
/-- What is new first, then the tail. -/
theorem repl_cells' (cur : Array Value) (c i j : Nat) (l M : List α) (hs : cur.size = c * R.n) (hfit : i + M.length + (l.length - j) ≤ c) (hi : i ≤ l.length)
    (hcur : ∀ k, k < i → ∀ t, t < R.n → cur[k * R.n + t]? = (R.cells (l.getD k R.zero))[t]?) :
    ∀ k, k < (l.take i ++ (M ++ l.drop j)).length → ∀ t, t < R.n → (wrs (wrs cur (i * R.n) (R.all M)) ((i + M.length) * R.n) (R.all (l.drop j)))[k * R.n + t]? = (R.cells ((l.take i ++ (M ++ l.drop j)).getD k R.zero))[t]? := by
  intro k hk t ht
  rw [len_repl l M i j hi] at hk
  rw [getD_repl R.zero l M i j k hi, wrs_at R _ _ c (l.drop j) (by rw [wrs_size]; exact hs) (by simp; omega) k t ht]
  by_cases h1 : k < i
  · rw [if_neg (by omega), if_pos h1, wrs_at R _ _ c _ hs (by omega) k t ht, if_neg (by omega)]
    exact hcur k h1 t ht
  · rw [if_neg h1]
    by_cases h2 : k < i + M.length
    · rw [if_neg (by omega), if_pos h2, wrs_at R _ _ c _ hs (by omega) k t ht, if_pos ⟨by omega, h2⟩]
    · rw [if_pos (by simp; omega), if_neg h2, getD_drop]
end
section
variable {α : Type} {R : Rec α} {B : Nat} {w : World} {l : List α}
theorem keeps_sets2 (w : World) (g o o' : Nat) (vs vs' : List Value) : Keeps w ((w.setCells g o vs).setCells g o' vs') (fun b => b = g) := (Keeps.sets vs w g o).trans (Keeps.sets vs' _ g o') fun _ _ h => h
/-- A row's part from i up to j is M, the tail being moved first. -/
theorem Row.repl {g n c : Nat} (h : Row R B w (.slice (some ⟨g, 0, none⟩) n c) l) (i j : Nat) (M : List α) (hi : i ≤ l.length) (hfit : i + M.length + (l.length - j) ≤ c) {nn : Nat} (hnn : nn = i + M.length + (l.length - j)) :
    Row R B ((w.setCells g ((i + M.length) * R.n) (R.all (l.drop j))).setCells g (i * R.n) (R.all M)) (.slice (some ⟨g, 0, none⟩) nn c) (l.take i ++ (M ++ l.drop j)) := by
  obtain ⟨rfl, hB, hlt, cur, hg, hlc, hcm, hs, hc⟩ := h.cur
  have hl := len_repl l M i j hi
  have := Row.of_cells (R := R) (B := B) (l' := l.take i ++ (M ++ l.drop j)) (c := c) hB (heap_sets (R.all M) _ g (i * R.n) _ R.t (heap_sets (R.all (l.drop j)) w g ((i + M.length) * R.n) cur R.t hg)) (by omega) hcm (by rw [wrs_size, wrs_size]; exact hs) (repl_cells R cur c i j l M hs hfit hi fun k hk => hc k (by omega))
  rwa [hl, ← hnn] at this
/-- .. the tail being moved last. -/
theorem Row.repl' {g n c : Nat} (h : Row R B w (.slice (some ⟨g, 0, none⟩) n c) l) (i j : Nat) (M : List α) (hi : i ≤ l.length) (hfit : i + M.length + (l.length - j) ≤ c) {nn : Nat} (hnn : nn = i + M.length + (l.length - j)) :
    Row R B ((w.setCells g (i * R.n) (R.all M)).setCells g ((i + M.length) * R.n) (R.all (l.drop j))) (.slice (some ⟨g, 0, none⟩) nn c) (l.take i ++ (M ++ l.drop j)) := by
  obtain ⟨rfl, hB, hlt, cur, hg, hlc, hcm, hs, hc⟩ := h.cur
  have hl := len_repl l M i j hi
  have := Row.of_cells (R := R) (B := B) (l' := l.take i ++ (M ++ l.drop j)) (c := c) hB (heap_sets (R.all (l.drop j)) _ g ((i + M.length) * R.n) _ R.t (heap_sets (R.all M) w g (i * R.n) cur R.t hg)) (by omega) hcm (by rw [wrs_size, wrs_size]; exact hs) (repl_cells' R cur c i j l M hs hfit hi fun k hk => hc k (by omega))
  rwa [hl, ← hnn] at this
/-- A new row of the same. -/
theorem Row.fresh {g c j : Nat} {cur : Array Value} (hB : B ≤ g) (hg : w.heap[g]? = some (.cells cur R.t (0, 0))) (hcm : c ≤ maxLen) (hs : cur.size = c * R.n) (i : Nat) (M : List α) (hi : i ≤ l.length) (hfit : i + M.length + (l.length - j) ≤ c)
    (hc : ∀ (t : Nat) (u : Value), (R.all (l.take i))[t]? = some u → cur[t]? = some u) {nn : Nat} (hnn : nn = i + M.length + (l.length - j)) :
    Row R B ((w.setCells g (i * R.n) (R.all M)).setCells g ((i + M.length) * R.n) (R.all (l.drop j))) (.slice (some ⟨g, 0, none⟩) nn c) (l.take i ++ (M ++ l.drop j)) := by
  have hl := len_repl l M i j hi
  have := Row.of_cells (R := R) (B := B) (l' := l.take i ++ (M ++ l.drop j)) (c := c) hB (heap_sets (R.all (l.drop j)) _ g ((i + M.length) * R.n) _ R.t (heap_sets (R.all M) w g (i * R.n) cur R.t hg)) (by omega) hcm (by rw [wrs_size, wrs_size]; exact hs) (repl_cells' R cur c i j l M hs hfit hi fun k hk t ht => by
    have e := R.all_at (l.take i) k t (by simp; omega) ht
    have e2 : (l.take i).getD k R.zero = l.getD k R.zero := by simp only [List.getD_eq_getElem?_getD]; rw [List.getElem?_take_of_lt hk]
    rw [e2] at e
    obtain ⟨u, hu⟩ := R.cell_some (l.getD k R.zero) ht
    rw [hu] at e ⊢
    exact hc _ u e)
  rwa [hl, ← hnn] at this
/-- What is written behind its end. -/
theorem Row.tail {g n c : Nat} (h : Row R B w (.slice (some ⟨g, 0, none⟩) n c) l) (o : Nat) (vs : List Value) (ho : l.length * R.n ≤ o) : Row R B (w.setCells g o vs) (.slice (some ⟨g, 0, none⟩) n c) l := by
  obtain ⟨rfl, hB, hlt, cur, hg, hlc, hcm, hs, hc⟩ := h.cur
  refine Row.of_cells (R := R) (B := B) (l' := l) (c := c) hB (heap_sets vs w g o cur R.t hg) hlc hcm (by rw [wrs_size]; exact hs) fun k hk j hj => ?_
  have : (k + 1) * R.n ≤ l.length * R.n := Nat.mul_le_mul_right _ hk
  rw [Nat.add_mul] at this
  rw [wrs_out _ _ _ _ (Or.inl (by omega))]
  exact hc k hk j hj
/-- Its cells, the spare ones too. -/
theorem Row.spare {g n c : Nat} (h : Row R B w (.slice (some ⟨g, 0, none⟩) n c) l) (j : Nat) (hj : j < c * R.n) : (w.cell? ⟨g, j, none⟩).isSome = true ∧ w.frozen? ⟨g, j, none⟩ = false := by
  obtain ⟨rfl, hB, hlt, cur, hg, hlc, hcm, hs, hc⟩ := h.cur
  refine ⟨?_, frozen_of_row w g _ cur _ hg⟩
  rw [cell_of_row w g _ cur _ _ hg, Array.getElem?_eq_getElem (by omega)]
  rfl
theorem Row.news {g n c : Nat} (h : Row R B w (.slice (some ⟨g, 0, none⟩) n c) l) (m : Nat) : ∀ (j : Nat) (u : Value), (R.all (l.drop m))[j]? = some u → w.cell? ⟨g, m * R.n + j, none⟩ = some u := by
  intro j u hj
  have hjl : j < (l.drop m).length * R.n := by
    have := (List.getElem?_eq_some_iff.1 hj).1
    rwa [R.all_len] at this
  obtain ⟨h1, h2, h3⟩ := R.div_lt hjl
  rw [List.length_drop] at h1
  obtain ⟨rfl, hB, hlt, cur, hg, hlc, hcm, hs, hc⟩ := h.cur
  rw [h3, R.all_at _ _ _ (by rw [List.length_drop]; exact h1) h2, getD_drop] at hj
  have := hc (m + j / R.n) (Nat.lt_sub_iff_add_lt'.1 h1) (j % R.n) h2
  rw [cell_of_row w g _ cur _ _ hg, ← hj, ← this, Nat.add_mul, Nat.add_assoc, ← h3]
theorem Row.shape {g n c : Nat} (h : Row R B w (.slice (some ⟨g, 0, none⟩) n c) l) (hl : 0 < l.length) : ∃ k, w.shape? g = some (R.t, k + 1) := by
  obtain ⟨rfl, hB, hlt, cur, hg, hlc, hcm, hs, hc⟩ := h.cur
  have : 1 * R.n ≤ c * R.n := Nat.mul_le_mul_right _ (by omega)
  have hn := R.npos
  refine ⟨cur.size - 1, ?_⟩
  unfold World.shape?
  rw [hg]
  simp
  omega
theorem blk_spare {w : World} {g : Nat} {cur : Array Value} {t : TypeId} (hg : w.heap[g]? = some (.cells cur t (0, 0))) {j : Nat} (hj : j < cur.size) : (w.cell? ⟨g, j, none⟩).isSome = true ∧ w.frozen? ⟨g, j, none⟩ = false := by
  refine ⟨?_, frozen_of_row w g _ cur _ hg⟩
  rw [cell_of_row w g _ cur _ _ hg, Array.getElem?_eq_getElem hj]
  rfl
/-- 'copy(d, x)', the records of x being X. -/
theorem copy_row {P : Program} {s : TypeId} (k : Kin P R s) {W : World} {b o dLen dc q p sLen sc : Nat} (X : List α) (hn : X.length = Nat.min sLen dLen) (hd : ∀ j, j < X.length * R.n → (W.cell? ⟨b, o + j, none⟩).isSome = true ∧ W.frozen? ⟨b, o + j, none⟩ = false)
    (hs : ∀ (j : Nat) (u : Value), (R.all X)[j]? = some u → W.cell? ⟨q, p + j, none⟩ = some u) (ty : TypeId) :
    (Builtin.copy_ #[s, s] ty #[.slice (some ⟨b, o, none⟩) dLen dc, .slice (some ⟨q, p, none⟩) sLen sc]).run P W = .ok (goInt X.length) (W.setCells b o (R.all X)) :=
  run_copyR k W ty b o dLen dc ⟨q, p, none⟩ sLen sc X.length (R.all X) hn (R.all_len X) (fun j u hj => by rw [Addr.add_lit]; exact hs j u hj) (fun j hj => (hd j (by rwa [R.all_len] at hj)).1) (fun j hj => (hd j (by rwa [R.all_len] at hj)).2) (R.all_oneCell X)
end
section
variable {P : Program} {α : Type} {R : Rec α} {s : TypeId}
/-- 'append(xs, ys...)': in place, or a new row. -/
theorem run_app' (k : Kin P R s) (w : World) (ty : TypeId) (B : Nat) (v : Value) (l1 l2 : List α) (h : Row R B w v l1) (ao : Option Addr) (c : Nat) (hs : Seen R w ao c l2) (hm : l1.length + l2.length ≤ maxLen) (hb : (l1.length + l2.length) * R.bytes ≤ 140737488355328) (hB : B ≤ w.heap.size) :
    ∃ v' w', (Builtin.append_ #[s, s] ty #[v, .slice ao l2.length c]).run P w = .ok v' w' ∧ Row R B w' v' (l1 ++ l2) ∧ w.grownBy w' v.ownBlock ∧ (∀ g, v'.ownBlock = some g → v.ownBlock = some g ∨ w.heap.size ≤ g) ∧ (v = .slice none 0 0 → l2 = [] → v' = .slice none 0 0) := by
  obtain ⟨v', w', hr, h1, h2⟩ := run_app k w ty B v l1 l2 h ao c hs hm hb hB
  refine ⟨v', w', hr, h1, h2, ?_⟩
  obtain ⟨i, z, hi, hz0, hz1, hz2, hzs⟩ := k.inf
  cases ao with
  | none =>
    obtain ⟨rfl, rfl⟩ := hs.1 rfl
    have hr2 := run_append_owned_none (P := P) w B s ty R.t i R.n k.und hi _ _ _ h
    have e := hr.symm.trans hr2
    cases e
    exact ⟨fun g hg => Or.inl hg, fun hv _ => hv⟩
  | some ad =>
    rcases h.cases with ⟨rfl, rfl⟩ | ⟨g, c1, cur, rfl, hB1, hlt, hg, hlc, hcm, hs1, ht⟩
    · by_cases h0 : l2.length = 0
      · have hl2 := List.eq_nil_of_length_eq_zero h0
        subst hl2
        have hr2 : (Builtin.append_ #[s, s] ty #[.slice none 0 0, .slice (some ad) 0 c]).run P w = .ok (.slice none 0 0) w := by
          simp [Builtin.append_, run_underlying k.und, sizeOf, typeInfo, hi, Builtin.lenOf, Builtin.firstCells, loadCells, loadCellsFrom]
        have e := hr.symm.trans hr2
        cases e
        exact ⟨fun g hg => Or.inl hg, fun _ _ => rfl⟩
      · have hr2 := run_append_nil (P := P) w s ty R.t i z k.und hi hz0 ad l2.length c (R.all l2) (by rw [hz1]; exact R.all_len l2) (hs.news ad rfl) (by omega) (by unfold maxLen at hm; simp at hm; omega) (by rw [hz2]; simp at hb; omega)
        have e := hr.symm.trans hr2
        cases e
        refine ⟨fun g hg => ?_, fun _ h => absurd (by rw [h]; rfl) h0⟩
        simp [Value.ownBlock] at hg
        omega
    · by_cases hroom : l1.length + l2.length ≤ c1
      · have hr2 := run_append_room (P := P) w s ty R.t i k.und hi g l1.length c1 cur hg ad l2.length c (R.all l2) (by rw [hz1]; exact R.all_len l2) (hs.news ad rfl) (R.all_oneCell l2) hroom (by rw [hz1, R.all_len, hs1, ← Nat.add_mul]; exact Nat.mul_le_mul_right _ hroom)
        have e := hr.symm.trans hr2
        cases e
        exact ⟨fun g hg => Or.inl hg, fun h => by cases h⟩
      · have hr2 := run_append_grow (P := P) w s ty R.t i z k.und hi hz0 ⟨g, 0, none⟩ l1.length c1 (R.all l1) (by rw [hz1]; exact R.all_len l1) (World.ownsRow.cells (g := g) h rfl) ad l2.length c (R.all l2) (by rw [hz1]; exact R.all_len l2) (hs.news ad rfl) (by omega) (by unfold maxLen at hm; omega) (by rw [hz2]; exact growslice_fits (by omega) hb)
        have e := hr.symm.trans hr2
        cases e
        refine ⟨fun g hg => ?_, fun h => by cases h⟩
        simp [Value.ownBlock] at hg
        omega
theorem wp_app' (k : Kin P R s) {o : Oper} {a : Act} {w : World} {K : Act → World → Prop} {Q : Exit → Act → World → Prop} (x y : Operand) (ho : o.op = .call { callee := .builtin .append, args := #[x, y], argTypes := #[s, s] })
    (B : Nat) (v : Value) (l1 l2 : List α) (hv : a.eval x = v) (h : Row R B w v l1) (ao : Option Addr) (n c : Nat) (hy : a.eval y = .slice ao n c) (hn : n = l2.length) (hs : Seen R w ao c l2) (hm : l1.length + l2.length ≤ maxLen) (hb : (l1.length + l2.length) * R.bytes ≤ 140737488355328) (hB : B ≤ w.heap.size)
    (hK : ∀ v' w', Row R B w' v' (l1 ++ l2) → w.grownBy w' v.ownBlock → (∀ g, v'.ownBlock = some g → v.ownBlock = some g ∨ w.heap.size ≤ g) → (v = .slice none 0 0 → l2 = [] → v' = .slice none 0 0) → K (a.put o.dst v') w') : Oper.wp P o a w K Q := by
  subst hn
  obtain ⟨v', w', hr, h2, h3, h4, h5⟩ := run_app' k w o.type B v l1 l2 h ao c hs hm hb hB
  unfold Oper.wp execOp
  simp only [ho, resolve, invoke, builtin, Sem.run_bind, Sem.run_pure, Result.andThen_ok, List.map_toArray, List.map_cons, List.map_nil, hv, hy, hr]
  exact hK v' w' h2 h3 h4 h5
theorem step_app' (k : Kin P R s) {ops : Array Oper} {o : Oper} {a : Act} {w : World} {K : Act → World → Prop} {Q : Exit → Act → World → Prop} {E : Prop} (hg : o.guard = none) (x y : Operand) (ho : o.op = .call { callee := .builtin .append, args := #[x, y], argTypes := #[s, s] })
    (B : Nat) (v : Value) (l1 l2 : List α) (hv : a.eval x = v) (h : Row R B w v l1) (ao : Option Addr) (n c : Nat) (hy : a.eval y = .slice ao n c) (hn : n = l2.length) (hs : Seen R w ao c l2) (hm : l1.length + l2.length ≤ maxLen) (hb : (l1.length + l2.length) * R.bytes ≤ 140737488355328) (hB : B ≤ w.heap.size)
    (hK : ∀ v' w', Row R B w' v' (l1 ++ l2) → w.grownBy w' v.ownBlock → (∀ g, v'.ownBlock = some g → v.ownBlock = some g ∨ w.heap.size ≤ g) → (v = .slice none 0 0 → l2 = [] → v' = .slice none 0 0) → K (a.put o.dst v') w') : if Region.wanted o (yielded ops a.tmps) = true then Oper.wp P o a w K Q else E := by
  rw [if_pos (show Region.wanted o (yielded ops a.tmps) = true by simp [Region.wanted, hg])]
  exact wp_app' k x y ho B v l1 l2 hv h ao n c hy hn hs hm hb hB hK
theorem list_app' (k : Kin P R s) {ops : Array Oper} {rest : List Oper} {o : Oper} {a : Act} {w : World} {Q : Exit → Act → World → Prop} (hg : o.guard = none) (x y : Operand) (ho : o.op = .call { callee := .builtin .append, args := #[x, y], argTypes := #[s, s] })
    (B : Nat) (v : Value) (l1 l2 : List α) (hv : a.eval x = v) (h : Row R B w v l1) (ao : Option Addr) (n c : Nat) (hy : a.eval y = .slice ao n c) (hn : n = l2.length) (hs : Seen R w ao c l2) (hm : l1.length + l2.length ≤ maxLen) (hb : (l1.length + l2.length) * R.bytes ≤ 140737488355328) (hB : B ≤ w.heap.size)
    (hK : ∀ v' w', Row R B w' v' (l1 ++ l2) → w.grownBy w' v.ownBlock → (∀ g, v'.ownBlock = some g → v.ownBlock = some g ∨ w.heap.size ≤ g) → (v = .slice none 0 0 → l2 = [] → v' = .slice none 0 0) → wpList P ops Q rest (a.put o.dst v') w') : wpList P ops Q (o :: rest) a w :=
  wpList_plain hg fun _ hK' => wp_app' k x y ho B v l1 l2 hv h ao n c hy hn hs hm hb hB fun v' w' h2 h3 h4 h5 => hK' _ _ (hK v' w' h2 h3 h4 h5)
/-- 'append(s[:i], xs...)' of nothing. -/
theorem run_app0 (k : Kin P R s) (w : World) (ty : TypeId) (g i c : Nat) (hic : i ≤ c) : (Builtin.append_ #[s, s] ty #[.slice (some ⟨g, 0, none⟩) i c, .slice none 0 0]).run P w = .ok (.slice (some ⟨g, 0, none⟩) i c) w := by
  obtain ⟨i0, z, hi, hz0, hz1, hz2, hzs⟩ := k.inf
  have h0 := run_storeCells_cells (P := P) g (0 + i * i0.size) [] 0 w (by simp) (by simp) (by simp)
  simp only [Nat.add_zero] at h0
  rw [← Addr.add_lit] at h0
  simp [Builtin.append_, run_underlying k.und, sizeOf, typeInfo, hi, Builtin.lenOf, Builtin.firstCells, hic, h0, World.setCells]
/-- The head of a row. -/
theorem Row.head {B : Nat} {w : World} {g n c : Nat} {l : List α} (h : Row R B w (.slice (some ⟨g, 0, none⟩) n c) l) (i : Nat) (hi : i ≤ l.length) : Row R B w (.slice (some ⟨g, 0, none⟩) i c) (l.take i) := by
  obtain ⟨rfl, hB, hlt, cur, hg, hlc, hcm, hs, hc⟩ := h.cur
  have hl : (l.take i).length = i := by simp; omega
  have := Row.of_cells (R := R) (B := B) (l' := l.take i) (c := c) hB hg (by omega) hcm hs (fun k hk j hj => by
    have e2 : (l.take i).getD k R.zero = l.getD k R.zero := by simp only [List.getD_eq_getElem?_getD]; rw [List.getElem?_take_of_lt (by omega)]
    rw [e2]
    exact hc k (by omega) j hj)
  rwa [hl] at this
end
end Go.Proofs.Ytoimmapdkapheaa
