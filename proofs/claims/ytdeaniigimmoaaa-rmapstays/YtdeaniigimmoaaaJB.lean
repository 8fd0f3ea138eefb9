/- Own texts, joined: ZRow3, ZRow4, RMath, QRow, QMath, QTh, ZReg. -/
import Derived.Test.YtdeaniigimmoaaaJA
import Derived.Lib.Overlaps
import Derived.Lib.AppendZerosOnto
import Derived.Laws.NewBlocks
import Derived.Laws.AppendOwn
import Derived.Deep.RegionHeld3
/- Rows of records: copied within and between rows, cleared, grown by zeros. No word of the program. -/
namespace Go.Proofs.Ytdeaniigimmoaaa
open Go.RowKit

section
variable {P : Program} {α : Type} {R : Rec α} {s : TypeId}

/-- 'copy(d, x)' of n records, whatever overlaps. -/
theorem run_copyR (k : Kin P R s) (w : World) (ty : TypeId) (b o dLen dCap : Nat) (a : Addr) (sLen sCap n : Nat) (cs : List Value) (hn : n = Nat.min sLen dLen) (hl : cs.length = n * R.n)
    (hsrc : ∀ j v, cs[j]? = some v → w.cell? (a.add j) = some v) (hc : ∀ j, j < cs.length → (w.cell? ⟨b, o + j, none⟩).isSome = true) (hf : ∀ j, j < cs.length → w.frozen? ⟨b, o + j, none⟩ = false) (h1 : ∀ v ∈ cs, v.oneCell' = true) :
    (Builtin.copy_ #[s, s] ty #[.slice (some ⟨b, o, none⟩) dLen dCap, .slice (some a) sLen sCap]).run P w = .ok (goInt n) (w.setCells b o cs) := by
  obtain ⟨i, z, hi, _, hs, _⟩ := k.inf
  have hld := run_loadCells_list (P := P) w a cs hsrc
  rw [hl] at hld
  have hst := run_storeCells_cells (P := P) b o cs 0 w (by simpa using hc) (by simpa using hf) h1
  simp [Builtin.copy_, run_underlying k.und, Builtin.lenOf, Builtin.firstCells, sizeOf, typeInfo, hi, hs, ← hn, hld, hst]
theorem run_copy0 (k : Kin P R s) (w : World) (ty : TypeId) (a : Addr) (dLen dCap : Nat) : (Builtin.copy_ #[s, s] ty #[.slice (some a) dLen dCap, .slice none 0 0]).run P w = .ok (goInt 0) w := by
  obtain ⟨i, z, hi, _⟩ := k.inf
  exact run_copy_nil P w s s ty R.t a dLen dCap k.und (by rw [hi]; rfl)
/-- .. at 'Oper.wp', where its run is known. -/
theorem wp_copyR (w : World) {o : Oper} {a : Act} {K : Act → World → Prop} {Q : Exit → Act → World → Prop} (d x : Operand) (ho : o.op = .call { callee := .builtin .copy, args := #[d, x], argTypes := #[s, s] }) (v u : Value) (hd : a.eval d = v) (hx : a.eval x = u) {v' : Value} {w' : World}
    (hr : ∀ ty, (Builtin.copy_ #[s, s] ty #[v, u]).run P w = .ok v' w') (h : K (a.put o.dst v') w') : Oper.wp P o a w K Q := by
  unfold Oper.wp execOp
  simp only [ho, resolve, invoke, builtin, Sem.run_bind, Sem.run_pure, Result.andThen_ok, List.map_toArray, List.map_cons, List.map_nil, hd, hx, hr]
  exact h
theorem list_copyR (w : World) {ops : Array Oper} {rest : List Oper} {o : Oper} {a : Act} {Q : Exit → Act → World → Prop} (hg : o.guard = none) (d x : Operand) (ho : o.op = .call { callee := .builtin .copy, args := #[d, x], argTypes := #[s, s] }) (v u : Value) (hd : a.eval d = v) (hx : a.eval x = u) {v' : Value} {w' : World}
    (hr : ∀ ty, (Builtin.copy_ #[s, s] ty #[v, u]).run P w = .ok v' w') (h : wpList P ops Q rest (a.put o.dst v') w') : wpList P ops Q (o :: rest) a w :=
  wpList_plain hg fun _ hK => wp_copyR w d x ho v u hd hx hr (hK _ _ h)
theorem step_copyR {ops : Array Oper} {o : Oper} {a : Act} {w : World} {K : Act → World → Prop} {Q : Exit → Act → World → Prop} {E : Prop} (hg : o.guard = none) (d x : Operand) (ho : o.op = .call { callee := .builtin .copy, args := #[d, x], argTypes := #[s, s] }) (v u : Value) (hd : a.eval d = v) (hx : a.eval x = u) {v' : Value} {w' : World}
    (hr : ∀ ty, (Builtin.copy_ #[s, s] ty #[v, u]).run P w = .ok v' w') (hK : K (a.put o.dst v') w') : if Region.wanted o (yielded ops a.tmps) = true then Oper.wp P o a w K Q else E := by
  rw [if_pos (show Region.wanted o (yielded ops a.tmps) = true by simp [Region.wanted, hg])]
  exact wp_copyR w d x ho v u hd hx hr hK

/-- 'clear(s)' of n records: their cells are written, with whatever it be. -/
theorem run_clearR (k : Kin P R s) (hone : ∀ i z, P.info? R.t = some i → i.zero = some z → ∀ u ∈ z.cells, u.oneCell' = true) (w : World) (b o n c : Nat) (hc : ∀ j, j < n * R.n → (w.cell? ⟨b, o + j, none⟩).isSome = true) (hf : ∀ j, w.frozen? ⟨b, j, none⟩ = false) :
    ∃ vs : List Value, vs.length = n * R.n ∧ ∀ ty, (Builtin.clear_ #[s] ty #[.slice (some ⟨b, o, none⟩) n c]).run P w = .ok (.tuple #[]) (w.setCells b o vs) := by
  obtain ⟨i, z, hi, hz0, hz1, hz2, hzs⟩ := k.inf
  cases n with
  | zero =>
    refine ⟨[], by simp, fun ty => ?_⟩
    simp [Builtin.clear_, run_underlying k.und, World.setCells]
  | succ m =>
    have hl : (Builtin.zeroCells z.cells (m + 1)).toList.length = (m + 1) * R.n := by simp [Builtin.zeroCells, hzs]
    have h1 : ∀ u ∈ (Builtin.zeroCells z.cells (m + 1)).toList, u.oneCell' = true := by
      intro u hu
      simp only [Builtin.zeroCells, Array.toList_map, List.mem_map] at hu
      obtain ⟨j, _, rfl⟩ := hu
      have hj : j % z.cells.size < z.cells.size := Nat.mod_lt _ (by rw [hzs]; exact R.npos)
      apply hone i z hi hz0
      rw [Array.getElem!_eq_getD, Array.getD_eq_getD_getElem?, Array.getElem?_eq_getElem hj, Option.getD_some]
      exact Array.getElem_mem hj
    have hst := run_storeCells_cells (P := P) b o (Builtin.zeroCells z.cells (m + 1)).toList 0 w (by rw [hl]; simpa using hc) (by intro j _; exact hf _) h1
    simp only [Nat.add_zero] at hst
    refine ⟨_, hl, fun ty => ?_⟩
    simp [Builtin.clear_, run_underlying k.und, zeroValue, typeInfo, hi, hz0, hst]

/-- 'append(s[:i], make(S, k)...)' of a row with no room: a new row of what stood there, and whatever it be behind. -/
theorem run_zerosR (k : Kin P R s) (tn : TypeId) (hn : P.underlying tn = some (.int .i64)) (w : World) (g i c m : Nat) (l : List α) (hl : l.length = i) (hm : 0 < m) (hc : c < i + m) (hb : (i + m) * R.bytes ≤ 140737488355328) (hlen : i + m ≤ maxLen)
    (hcell : ∀ (j : Nat) (u : Value), (R.all l)[j]? = some u → w.cell? ⟨g, j, none⟩ = some u) :
    ∃ (G : Nat) (cur : Array Value), i + m ≤ G ∧ G ≤ maxLen ∧ cur.size = G * R.n ∧ (∀ (j : Nat) (u : Value), (R.all l)[j]? = some u → cur[j]? = some u) ∧
      ∀ ty, (Builtin.append_ #[s, tn] ty #[.slice (some ⟨g, 0, none⟩) i c, .int .i64 m]).run P w = .ok (.slice (some ⟨w.heap.size, 0, none⟩) (i + m) G) (w.drew.alloc (.cells cur R.t (0, 0))) := by
  obtain ⟨i0, z, hi, hz0, hz1, hz2, hzs⟩ := k.inf
  have hold : (Builtin.firstCells i0.size i (.slice (some ⟨g, 0, none⟩) i c)).run P w.drew = .ok (R.all l).toArray w.drew :=
    run_firstCells_some w.drew i0.size i ⟨g, 0, none⟩ i c (R.all l) (by rw [R.all_len, hl, hz1]) (fun j v hj => by
      rw [Addr.add_lit, Nat.zero_add]
      exact hcell j v hj)
  refine ⟨grownCap w (i + m) c R.t, (R.all l).toArray ++ Builtin.zeroCells z.cells m ++ Builtin.zeroCells z.cells (grownCap w (i + m) c R.t - (i + m)), grownCap_ge w _ _ _, grownCap_le_maxLen w (i + m) c R.t hlen, ?_, ?_, fun ty => ?_⟩
  · have := grownCap_ge w (i + m) c R.t
    simp only [Array.size_append, List.size_toArray, R.all_len, hl, Builtin.zeroCells, Array.size_map, Array.size_range, hzs]
    rw [← Nat.add_mul, ← Nat.add_mul]
    congr 1
    omega
  · intro j u hj
    have hlt := (List.getElem?_eq_some_iff.1 hj).1
    rw [Array.append_assoc, Array.getElem?_append_left (by simpa using hlt)]
    simpa using hj
  · have hb' : m * R.bytes ≤ 281474976710656 := by
      have : m * R.bytes ≤ (i + m) * R.bytes := Nat.mul_le_mul_right _ (by omega)
      omega
    exact Lib.run_append_grow_zeros w s tn ty R.t i0 z .i64 .i64 k.und hn hi hz0 (some ⟨g, 0, none⟩) i c (R.all l) hold m hm (by rw [hz1]; exact R.npos) hc (by unfold maxLen at hlen; omega) (by rw [hz2]; exact hb') (by rw [hz2]; exact growslice_fits hc hb)
end

/-- Records written into a block from the i-th place on. -/
theorem wrs_at {α : Type} (R : Rec α) (cur : Array Value) (i c : Nat) (M : List α) (hs : cur.size = c * R.n) (hi : i + M.length ≤ c) (k j : Nat) (hj : j < R.n) :
    (wrs cur (i * R.n) (R.all M))[k * R.n + j]? = if i ≤ k ∧ k < i + M.length then (R.cells (M.getD (k - i) R.zero))[j]? else cur[k * R.n + j]? := by
  have hall := R.all_len M
  have hfit : (i + M.length) * R.n ≤ c * R.n := Nat.mul_le_mul_right _ hi
  rw [Nat.add_mul] at hfit
  by_cases h : i ≤ k ∧ k < i + M.length
  · rw [if_pos h]
    obtain ⟨d, rfl⟩ : ∃ d, k = i + d := ⟨k - i, by omega⟩
    have hd : (d + 1) * R.n ≤ M.length * R.n := Nat.mul_le_mul_right _ (by omega)
    rw [Nat.add_mul] at hd
    rw [Nat.add_mul, Nat.add_assoc, wrs_in (R.all M) cur (i * R.n) (d * R.n + j) (by rw [hall]; omega) (by rw [hall, hs]; omega), R.all_at M d j (by omega) hj, show i + d - i = d by omega]
  · rw [if_neg h]
    apply wrs_out
    rw [hall]
    rcases Nat.lt_or_ge k i with c1 | c1
    · left
      have : (k + 1) * R.n ≤ i * R.n := Nat.mul_le_mul_right _ c1
      rw [Nat.add_mul] at this
      omega
    · right
      have : (i + M.length) * R.n ≤ k * R.n := Nat.mul_le_mul_right _ (by omega)
      rw [Nat.add_mul] at this
      omega
end Go.Proofs.Ytdeaniigimmoaaa
/- Rows of records: a part of one is replaced. No word of the program. -/
namespace Go.Proofs.Ytdeaniigimmoaaa
open Go.RowKit

theorem getD_repl {α : Type} (z : α) (l M : List α) (i j k : Nat) (hi : i ≤ l.length) : (l.take i ++ (M ++ l.drop j)).getD k z = if k < i then l.getD k z else if k < i + M.length then M.getD (k - i) z else l.getD (j + (k - (i + M.length))) z := by
  simp only [List.getD_eq_getElem?_getD]
  by_cases h1 : k < i
  · rw [if_pos h1, List.getElem?_append_left (by simp; omega), List.getElem?_take_of_lt h1]
  · rw [if_neg h1, List.getElem?_append_right (by simp; omega), List.length_take, Nat.min_eq_left hi]
    by_cases h2 : k < i + M.length
    · rw [if_pos h2, List.getElem?_append_left (by omega)]
    · rw [if_neg h2, List.getElem?_append_right (by omega), List.getElem?_drop, show k - i - M.length = k - (i + M.length) by omega]
theorem len_repl {α : Type} (l M : List α) (i j : Nat) (hi : i ≤ l.length) : (l.take i ++ (M ++ l.drop j)).length = i + M.length + (l.length - j) := by
  simp only [List.length_append, List.length_take, List.length_drop]
  omega
section
variable {α : Type} (R : Rec α)
theorem getD_drop (l : List α) (j k : Nat) : (l.drop j).getD k R.zero = l.getD (j + k) R.zero := by simp only [List.getD_eq_getElem?_getD, List.getElem?_drop]
/-- The tail first, then what is new. -/
theorem repl_cells (cur : Array Value) (c i j : Nat) (l M : List α) (hs : cur.size = c * R.n) (hfit : i + M.length + (l.length - j) ≤ c) (hi : i ≤ l.length)
    (hcur : ∀ k, k < i → ∀ t, t < R.n → cur[k * R.n + t]? = (R.cells (l.getD k R.zero))[t]?) :
    ∀ k, k < (l.take i ++ (M ++ l.drop j)).length → ∀ t, t < R.n → (wrs (wrs cur ((i + M.length) * R.n) (R.all (l.drop j))) (i * R.n) (R.all M))[k * R.n + t]? = (R.cells ((l.take i ++ (M ++ l.drop j)).getD k R.zero))[t]? := by
  intro k hk t ht
  rw [len_repl l M i j hi] at hk
  rw [getD_repl R.zero l M i j k hi, wrs_at R _ i c M (by rw [wrs_size]; exact hs) (by omega) k t ht]
  by_cases h1 : k < i
  · rw [if_neg (by omega), if_pos h1, wrs_at R _ _ c _ hs (by simp; omega) k t ht, if_neg (by omega)]
    exact hcur k h1 t ht
  · rw [if_neg h1]
    by_cases h2 : k < i + M.length
    · rw [if_pos ⟨by omega, h2⟩, if_pos h2]
    · rw [if_neg (by omega), if_neg h2, wrs_at R _ _ c _ hs (by simp; omega) k t ht, if_pos (by simp; omega), getD_drop]
/-- What is new first, then the tail. -/
theorem repl_cells' (cur : Array Value) (c i j : Nat) (l M : List α) (hs : cur.size = c * R.n) (hfit : i + M.length + (l.length - j) ≤ c) (hi : i ≤ l.length)
    (hcur : ∀ k, k < i → ∀ t, t < R.n → cur[k * R.n + t]? = (R.cells (l.getD k R.zero))[t]?) :
    ∀ k, k < (l.take i ++ (M ++ l.drop j)).length → ∀ t, t < R.n → (wrs (wrs cur (i * R.n) (R.all M)) ((i + M.length) * R.n) (R.all (l.drop j)))[k * R.n + t]? = (R.cells ((l.take i ++ (M ++ l.drop j)).getD k R.zero))[t]? := by
  intro k hk t ht
  rw [len_repl l M i j hi] at hk
  rw [getD_repl R.zero l M i j k hi, wrs_at R _ _ c (l.drop j) (by rw [wrs_size]; exact hs) (by simp; omega) k t ht]
  by_cases h1 : k < i
  · rw [if_neg (by omega), if_pos h1, wrs_at R _ _ c _ hs (by omega) k t ht, if_neg (by omega)]
    exact hcur k h1 t ht
  · rw [if_neg h1]
    by_cases h2 : k < i + M.length
    · rw [if_neg (by omega), if_pos h2, wrs_at R _ _ c _ hs (by omega) k t ht, if_pos ⟨by omega, h2⟩]
    · rw [if_pos (by simp; omega), if_neg h2, getD_drop]
end
section
variable {α : Type} {R : Rec α} {B : Nat} {w : World} {l : List α}
theorem keeps_sets2 (w : World) (g o o' : Nat) (vs vs' : List Value) : Keeps w ((w.setCells g o vs).setCells g o' vs') (fun b => b = g) := (Keeps.sets vs w g o).trans (Keeps.sets vs' _ g o') fun _ _ h => h
/-- A row's part from i up to j is M, the tail being moved first. -/
theorem Row.repl {g n c : Nat} (h : Row R B w (.slice (some ⟨g, 0, none⟩) n c) l) (i j : Nat) (M : List α) (hi : i ≤ l.length) (hfit : i + M.length + (l.length - j) ≤ c) {nn : Nat} (hnn : nn = i + M.length + (l.length - j)) :
    Row R B ((w.setCells g ((i + M.length) * R.n) (R.all (l.drop j))).setCells g (i * R.n) (R.all M)) (.slice (some ⟨g, 0, none⟩) nn c) (l.take i ++ (M ++ l.drop j)) := by
  obtain ⟨rfl, hB, hlt, cur, hg, hlc, hcm, hs, hc⟩ := h.cur
  have hl := len_repl l M i j hi
  have := Row.of_cells (R := R) (B := B) (l' := l.take i ++ (M ++ l.drop j)) (c := c) hB (heap_sets (R.all M) _ g (i * R.n) _ R.t (heap_sets (R.all (l.drop j)) w g ((i + M.length) * R.n) cur R.t hg)) (by omega) hcm (by rw [wrs_size, wrs_size]; exact hs) (repl_cells R cur c i j l M hs hfit hi fun k hk => hc k (by omega))
  rwa [hl, ← hnn] at this
/-- .. the tail being moved last. -/
theorem Row.repl' {g n c : Nat} (h : Row R B w (.slice (some ⟨g, 0, none⟩) n c) l) (i j : Nat) (M : List α) (hi : i ≤ l.length) (hfit : i + M.length + (l.length - j) ≤ c) {nn : Nat} (hnn : nn = i + M.length + (l.length - j)) :
    Row R B ((w.setCells g (i * R.n) (R.all M)).setCells g ((i + M.length) * R.n) (R.all (l.drop j))) (.slice (some ⟨g, 0, none⟩) nn c) (l.take i ++ (M ++ l.drop j)) := by
  obtain ⟨rfl, hB, hlt, cur, hg, hlc, hcm, hs, hc⟩ := h.cur
  have hl := len_repl l M i j hi
  have := Row.of_cells (R := R) (B := B) (l' := l.take i ++ (M ++ l.drop j)) (c := c) hB (heap_sets (R.all (l.drop j)) _ g ((i + M.length) * R.n) _ R.t (heap_sets (R.all M) w g (i * R.n) cur R.t hg)) (by omega) hcm (by rw [wrs_size, wrs_size]; exact hs) (repl_cells' R cur c i j l M hs hfit hi fun k hk => hc k (by omega))
  rwa [hl, ← hnn] at this
/-- A new row of the same. -/
theorem Row.fresh {g c j : Nat} {cur : Array Value} (hB : B ≤ g) (hg : w.heap[g]? = some (.cells cur R.t (0, 0))) (hcm : c ≤ maxLen) (hs : cur.size = c * R.n) (i : Nat) (M : List α) (hi : i ≤ l.length) (hfit : i + M.length + (l.length - j) ≤ c)
    (hc : ∀ (t : Nat) (u : Value), (R.all (l.take i))[t]? = some u → cur[t]? = some u) {nn : Nat} (hnn : nn = i + M.length + (l.length - j)) :
    Row R B ((w.setCells g (i * R.n) (R.all M)).setCells g ((i + M.length) * R.n) (R.all (l.drop j))) (.slice (some ⟨g, 0, none⟩) nn c) (l.take i ++ (M ++ l.drop j)) := by
  have hl := len_repl l M i j hi
  have := Row.of_cells (R := R) (B := B) (l' := l.take i ++ (M ++ l.drop j)) (c := c) hB (heap_sets (R.all (l.drop j)) _ g ((i + M.length) * R.n) _ R.t (heap_sets (R.all M) w g (i * R.n) cur R.t hg)) (by omega) hcm (by rw [wrs_size, wrs_size]; exact hs) (repl_cells' R cur c i j l M hs hfit hi fun k hk t ht => by
    have e := R.all_at (l.take i) k t (by simp; omega) ht
    have e2 : (l.take i).getD k R.zero = l.getD k R.zero := by simp only [List.getD_eq_getElem?_getD]; rw [List.getElem?_take_of_lt hk]
    rw [e2] at e
    obtain ⟨u, hu⟩ := R.cell_some (l.getD k R.zero) ht
    rw [hu] at e ⊢
    exact hc _ u e)
  rwa [hl, ← hnn] at this
/-- What is written behind its end. -/
theorem Row.tail {g n c : Nat} (h : Row R B w (.slice (some ⟨g, 0, none⟩) n c) l) (o : Nat) (vs : List Value) (ho : l.length * R.n ≤ o) : Row R B (w.setCells g o vs) (.slice (some ⟨g, 0, none⟩) n c) l := by
  obtain ⟨rfl, hB, hlt, cur, hg, hlc, hcm, hs, hc⟩ := h.cur
  refine Row.of_cells (R := R) (B := B) (l' := l) (c := c) hB (heap_sets vs w g o cur R.t hg) hlc hcm (by rw [wrs_size]; exact hs) fun k hk j hj => ?_
  have : (k + 1) * R.n ≤ l.length * R.n := Nat.mul_le_mul_right _ hk
  rw [Nat.add_mul] at this
  rw [wrs_out _ _ _ _ (Or.inl (by omega))]
  exact hc k hk j hj
/-- Its cells, the spare ones too. -/
theorem Row.spare {g n c : Nat} (h : Row R B w (.slice (some ⟨g, 0, none⟩) n c) l) (j : Nat) (hj : j < c * R.n) : (w.cell? ⟨g, j, none⟩).isSome = true ∧ w.frozen? ⟨g, j, none⟩ = false := by
  obtain ⟨rfl, hB, hlt, cur, hg, hlc, hcm, hs, hc⟩ := h.cur
  refine ⟨?_, frozen_of_row w g _ cur _ hg⟩
  rw [cell_of_row w g _ cur _ _ hg, Array.getElem?_eq_getElem (by omega)]
  rfl
theorem Row.news {g n c : Nat} (h : Row R B w (.slice (some ⟨g, 0, none⟩) n c) l) (m : Nat) : ∀ (j : Nat) (u : Value), (R.all (l.drop m))[j]? = some u → w.cell? ⟨g, m * R.n + j, none⟩ = some u := by
  intro j u hj
  have hjl : j < (l.drop m).length * R.n := by
    have := (List.getElem?_eq_some_iff.1 hj).1
    rwa [R.all_len] at this
  obtain ⟨h1, h2, h3⟩ := R.div_lt hjl
  rw [List.length_drop] at h1
  obtain ⟨rfl, hB, hlt, cur, hg, hlc, hcm, hs, hc⟩ := h.cur
  rw [h3, R.all_at _ _ _ (by rw [List.length_drop]; exact h1) h2, getD_drop] at hj
  have := hc (m + j / R.n) (Nat.lt_sub_iff_add_lt'.1 h1) (j % R.n) h2
  rw [cell_of_row w g _ cur _ _ hg, ← hj, ← this, Nat.add_mul, Nat.add_assoc, ← h3]
theorem Row.shape {g n c : Nat} (h : Row R B w (.slice (some ⟨g, 0, none⟩) n c) l) (hl : 0 < l.length) : ∃ k, w.shape? g = some (R.t, k + 1) := by
  obtain ⟨rfl, hB, hlt, cur, hg, hlc, hcm, hs, hc⟩ := h.cur
  have : 1 * R.n ≤ c * R.n := Nat.mul_le_mul_right _ (by omega)
  have hn := R.npos
  refine ⟨cur.size - 1, ?_⟩
  unfold World.shape?
  rw [hg]
  simp
  omega
theorem blk_spare {w : World} {g : Nat} {cur : Array Value} {t : TypeId} (hg : w.heap[g]? = some (.cells cur t (0, 0))) {j : Nat} (hj : j < cur.size) : (w.cell? ⟨g, j, none⟩).isSome = true ∧ w.frozen? ⟨g, j, none⟩ = false := by
  refine ⟨?_, frozen_of_row w g _ cur _ hg⟩
  rw [cell_of_row w g _ cur _ _ hg, Array.getElem?_eq_getElem hj]
  rfl
/-- 'copy(d, x)', the records of x being X. -/
theorem copy_row {P : Program} {s : TypeId} (k : Kin P R s) {W : World} {b o dLen dc q p sLen sc : Nat} (X : List α) (hn : X.length = Nat.min sLen dLen) (hd : ∀ j, j < X.length * R.n → (W.cell? ⟨b, o + j, none⟩).isSome = true ∧ W.frozen? ⟨b, o + j, none⟩ = false)
    (hs : ∀ (j : Nat) (u : Value), (R.all X)[j]? = some u → W.cell? ⟨q, p + j, none⟩ = some u) (ty : TypeId) :
    (Builtin.copy_ #[s, s] ty #[.slice (some ⟨b, o, none⟩) dLen dc, .slice (some ⟨q, p, none⟩) sLen sc]).run P W = .ok (goInt X.length) (W.setCells b o (R.all X)) :=
  run_copyR k W ty b o dLen dc ⟨q, p, none⟩ sLen sc X.length (R.all X) hn (R.all_len X) (fun j u hj => by rw [Addr.add_lit]; exact hs j u hj) (fun j hj => (hd j (by rwa [R.all_len] at hj)).1) (fun j hj => (hd j (by rwa [R.all_len] at hj)).2) (R.all_oneCell X)
end
section
variable {P : Program} {α : Type} {R : Rec α} {s : TypeId}
/-- 'append(xs, ys...)': in place, or a new row. -/
theorem run_app' (k : Kin P R s) (w : World) (ty : TypeId) (B : Nat) (v : Value) (l1 l2 : List α) (h : Row R B w v l1) (ao : Option Addr) (c : Nat) (hs : Seen R w ao c l2) (hm : l1.length + l2.length ≤ maxLen) (hb : (l1.length + l2.length) * R.bytes ≤ 140737488355328) (hB : B ≤ w.heap.size) :
    ∃ v' w', (Builtin.append_ #[s, s] ty #[v, .slice ao l2.length c]).run P w = .ok v' w' ∧ Row R B w' v' (l1 ++ l2) ∧ w.grownBy w' v.ownBlock ∧ (∀ g, v'.ownBlock = some g → v.ownBlock = some g ∨ w.heap.size ≤ g) ∧ (v = .slice none 0 0 → l2 = [] → v' = .slice none 0 0) := by
  obtain ⟨v', w', hr, h1, h2⟩ := run_app k w ty B v l1 l2 h ao c hs hm hb hB
  refine ⟨v', w', hr, h1, h2, ?_⟩
  obtain ⟨i, z, hi, hz0, hz1, hz2, hzs⟩ := k.inf
  cases ao with
  | none =>
    obtain ⟨rfl, rfl⟩ := hs.1 rfl
    have hr2 := run_append_owned_none (P := P) w B s ty R.t i R.n k.und hi _ _ _ h
    have e := hr.symm.trans hr2
    cases e
    exact ⟨fun g hg => Or.inl hg, fun hv _ => hv⟩
  | some ad =>
    rcases h.cases with ⟨rfl, rfl⟩ | ⟨g, c1, cur, rfl, hB1, hlt, hg, hlc, hcm, hs1, ht⟩
    · by_cases h0 : l2.length = 0
      · have hl2 := List.eq_nil_of_length_eq_zero h0
        subst hl2
        have hr2 : (Builtin.append_ #[s, s] ty #[.slice none 0 0, .slice (some ad) 0 c]).run P w = .ok (.slice none 0 0) w := by
          simp [Builtin.append_, run_underlying k.und, sizeOf, typeInfo, hi, Builtin.lenOf, Builtin.firstCells, loadCells, loadCellsFrom]
        have e := hr.symm.trans hr2
        cases e
        exact ⟨fun g hg => Or.inl hg, fun _ _ => rfl⟩
      · have hr2 := run_append_nil (P := P) w s ty R.t i z k.und hi hz0 ad l2.length c (R.all l2) (by rw [hz1]; exact R.all_len l2) (hs.news ad rfl) (by omega) (by unfold maxLen at hm; simp at hm; omega) (by rw [hz2]; simp at hb; omega)
        have e := hr.symm.trans hr2
        cases e
        refine ⟨fun g hg => ?_, fun _ h => absurd (by rw [h]; rfl) h0⟩
        simp [Value.ownBlock] at hg
        omega
    · by_cases hroom : l1.length + l2.length ≤ c1
      · have hr2 := run_append_room (P := P) w s ty R.t i k.und hi g l1.length c1 cur hg ad l2.length c (R.all l2) (by rw [hz1]; exact R.all_len l2) (hs.news ad rfl) (R.all_oneCell l2) hroom (by rw [hz1, R.all_len, hs1, ← Nat.add_mul]; exact Nat.mul_le_mul_right _ hroom)
        have e := hr.symm.trans hr2
        cases e
        exact ⟨fun g hg => Or.inl hg, fun h => by cases h⟩
      · have hr2 := run_append_grow (P := P) w s ty R.t i z k.und hi hz0 ⟨g, 0, none⟩ l1.length c1 (R.all l1) (by rw [hz1]; exact R.all_len l1) (World.ownsRow.cells (g := g) h rfl) ad l2.length c (R.all l2) (by rw [hz1]; exact R.all_len l2) (hs.news ad rfl) (by omega) (by unfold maxLen at hm; omega) (by rw [hz2]; exact growslice_fits (by omega) hb)
        have e := hr.symm.trans hr2
        cases e
        refine ⟨fun g hg => ?_, fun h => by cases h⟩
        simp [Value.ownBlock] at hg
        omega
theorem wp_app' (k : Kin P R s) {o : Oper} {a : Act} {w : World} {K : Act → World → Prop} {Q : Exit → Act → World → Prop} (x y : Operand) (ho : o.op = .call { callee := .builtin .append, args := #[x, y], argTypes := #[s, s] })
    (B : Nat) (v : Value) (l1 l2 : List α) (hv : a.eval x = v) (h : Row R B w v l1) (ao : Option Addr) (n c : Nat) (hy : a.eval y = .slice ao n c) (hn : n = l2.length) (hs : Seen R w ao c l2) (hm : l1.length + l2.length ≤ maxLen) (hb : (l1.length + l2.length) * R.bytes ≤ 140737488355328) (hB : B ≤ w.heap.size)
    (hK : ∀ v' w', Row R B w' v' (l1 ++ l2) → w.grownBy w' v.ownBlock → (∀ g, v'.ownBlock = some g → v.ownBlock = some g ∨ w.heap.size ≤ g) → (v = .slice none 0 0 → l2 = [] → v' = .slice none 0 0) → K (a.put o.dst v') w') : Oper.wp P o a w K Q := by
  subst hn
  obtain ⟨v', w', hr, h2, h3, h4, h5⟩ := run_app' k w o.type B v l1 l2 h ao c hs hm hb hB
  unfold Oper.wp execOp
  simp only [ho, resolve, invoke, builtin, Sem.run_bind, Sem.run_pure, Result.andThen_ok, List.map_toArray, List.map_cons, List.map_nil, hv, hy, hr]
  exact hK v' w' h2 h3 h4 h5
theorem step_app' (k : Kin P R s) {ops : Array Oper} {o : Oper} {a : Act} {w : World} {K : Act → World → Prop} {Q : Exit → Act → World → Prop} {E : Prop} (hg : o.guard = none) (x y : Operand) (ho : o.op = .call { callee := .builtin .append, args := #[x, y], argTypes := #[s, s] })
    (B : Nat) (v : Value) (l1 l2 : List α) (hv : a.eval x = v) (h : Row R B w v l1) (ao : Option Addr) (n c : Nat) (hy : a.eval y = .slice ao n c) (hn : n = l2.length) (hs : Seen R w ao c l2) (hm : l1.length + l2.length ≤ maxLen) (hb : (l1.length + l2.length) * R.bytes ≤ 140737488355328) (hB : B ≤ w.heap.size)
    (hK : ∀ v' w', Row R B w' v' (l1 ++ l2) → w.grownBy w' v.ownBlock → (∀ g, v'.ownBlock = some g → v.ownBlock = some g ∨ w.heap.size ≤ g) → (v = .slice none 0 0 → l2 = [] → v' = .slice none 0 0) → K (a.put o.dst v') w') : if Region.wanted o (yielded ops a.tmps) = true then Oper.wp P o a w K Q else E := by
  rw [if_pos (show Region.wanted o (yielded ops a.tmps) = true by simp [Region.wanted, hg])]
  exact wp_app' k x y ho B v l1 l2 hv h ao n c hy hn hs hm hb hB hK
theorem list_app' (k : Kin P R s) {ops : Array Oper} {rest : List Oper} {o : Oper} {a : Act} {w : World} {Q : Exit → Act → World → Prop} (hg : o.guard = none) (x y : Operand) (ho : o.op = .call { callee := .builtin .append, args := #[x, y], argTypes := #[s, s] })
    (B : Nat) (v : Value) (l1 l2 : List α) (hv : a.eval x = v) (h : Row R B w v l1) (ao : Option Addr) (n c : Nat) (hy : a.eval y = .slice ao n c) (hn : n = l2.length) (hs : Seen R w ao c l2) (hm : l1.length + l2.length ≤ maxLen) (hb : (l1.length + l2.length) * R.bytes ≤ 140737488355328) (hB : B ≤ w.heap.size)
    (hK : ∀ v' w', Row R B w' v' (l1 ++ l2) → w.grownBy w' v.ownBlock → (∀ g, v'.ownBlock = some g → v.ownBlock = some g ∨ w.heap.size ≤ g) → (v = .slice none 0 0 → l2 = [] → v' = .slice none 0 0) → wpList P ops Q rest (a.put o.dst v') w') : wpList P ops Q (o :: rest) a w :=
  wpList_plain hg fun _ hK' => wp_app' k x y ho B v l1 l2 hv h ao n c hy hn hs hm hb hB fun v' w' h2 h3 h4 h5 => hK' _ _ (hK v' w' h2 h3 h4 h5)
/-- 'append(s[:i], xs...)' of nothing. -/
theorem run_app0 (k : Kin P R s) (w : World) (ty : TypeId) (g i c : Nat) (hic : i ≤ c) : (Builtin.append_ #[s, s] ty #[.slice (some ⟨g, 0, none⟩) i c, .slice none 0 0]).run P w = .ok (.slice (some ⟨g, 0, none⟩) i c) w := by
  obtain ⟨i0, z, hi, hz0, hz1, hz2, hzs⟩ := k.inf
  have h0 := run_storeCells_cells (P := P) g (0 + i * i0.size) [] 0 w (by simp) (by simp) (by simp)
  simp only [Nat.add_zero] at h0
  rw [← Addr.add_lit] at h0
  simp [Builtin.append_, run_underlying k.und, sizeOf, typeInfo, hi, Builtin.lenOf, Builtin.firstCells, hic, h0, World.setCells]
/-- The head of a row. -/
theorem Row.head {B : Nat} {w : World} {g n c : Nat} {l : List α} (h : Row R B w (.slice (some ⟨g, 0, none⟩) n c) l) (i : Nat) (hi : i ≤ l.length) : Row R B w (.slice (some ⟨g, 0, none⟩) i c) (l.take i) := by
  obtain ⟨rfl, hB, hlt, cur, hg, hlc, hcm, hs, hc⟩ := h.cur
  have hl : (l.take i).length = i := by simp; omega
  have := Row.of_cells (R := R) (B := B) (l' := l.take i) (c := c) hB hg (by omega) hcm hs (fun k hk j hj => by
    have e2 : (l.take i).getD k R.zero = l.getD k R.zero := by simp only [List.getD_eq_getElem?_getD]; rw [List.getElem?_take_of_lt (by omega)]
    rw [e2]
    exact hc k (by omega) j hj)
  rwa [hl] at this
end
end Go.Proofs.Ytdeaniigimmoaaa
/- Rows of pages and frames: no word of the program. -/
namespace Go.Proofs.Ytdeaniigimmoaaa

/-- A page of a space, and its frame. -/
structure Rw where
  s : Int
  p : Int
  f : Int
/-- a lies ahead of b. -/
def Rw.lt (a b : Rw) : Prop := a.s < b.s ∨ (a.s = b.s ∧ a.p < b.p)
/-- Rows rise: no page twice. -/
def RisR (l : List Rw) : Prop := l.Pairwise Rw.lt
/-- A row that may be. -/
def Rw.may (a : Rw) : Prop := 0 ≤ a.f ∧ a.f < 512 ∧ 1 ≤ a.s ∧ a.s ≤ 255 ∧ 0 ≤ a.p ∧ a.p < 4096
/-- A list that may be. -/
def MayR (l : List Rw) : Prop := RisR l ∧ ∀ x ∈ l, x.may
theorem Rw.lt_irrefl (a : Rw) : ¬ a.lt a := by
  unfold Rw.lt
  omega
theorem Rw.lt_trans {a b c : Rw} (h : a.lt b) (k : b.lt c) : a.lt c := by
  unfold Rw.lt at *
  omega
theorem Rw.lt_tri (a b : Rw) : a.lt b ∨ (a.s = b.s ∧ a.p = b.p) ∨ b.lt a := by
  unfold Rw.lt
  omega
theorem RisR.nodup {l : List Rw} (h : RisR l) : l.Nodup := h.imp fun k e => by
  subst e
  exact Rw.lt_irrefl _ k
/-- Two rising lists of the same rows are one. -/
theorem ris_ext : ∀ {l m : List Rw}, RisR l → RisR m → (∀ x, x ∈ l ↔ x ∈ m) → l = m
  | [], [], _, _, _ => rfl
  | [], b :: m, _, _, h => by
    have := (h b).2 (by simp)
    simp at this
  | a :: l, [], _, _, h => by
    have := (h a).1 (by simp)
    simp at this
  | a :: l, b :: m, hl, hm, h => by
    obtain ⟨h1, h2⟩ := List.pairwise_cons.1 hl
    obtain ⟨k1, k2⟩ := List.pairwise_cons.1 hm
    have e : a = b := by
      rcases List.mem_cons.1 ((h a).1 (by simp)) with e | e
      · exact e
      · rcases List.mem_cons.1 ((h b).2 (by simp)) with e2 | e2
        · exact e2.symm
        · exact absurd (Rw.lt_trans (k1 a e) (h1 b e2)) (Rw.lt_irrefl _)
    subst e
    refine congrArg _ (ris_ext h2 k2 fun x => ⟨fun hx => ?_, fun hx => ?_⟩)
    · rcases List.mem_cons.1 ((h x).1 (List.mem_cons_of_mem _ hx)) with e | e
      · subst e
        exact absurd (h1 _ hx) (Rw.lt_irrefl _)
      · exact e
    · rcases List.mem_cons.1 ((h x).2 (List.mem_cons_of_mem _ hx)) with e | e
      · subst e
        exact absurd (k1 _ hx) (Rw.lt_irrefl _)
      · exact e
/-- Of one page there is one row. -/
theorem ris_one {l : List Rw} (h : RisR l) {x y : Rw} (hx : x ∈ l) (hy : y ∈ l) (e1 : x.s = y.s) (e2 : x.p = y.p) : x = y := by
  induction l with
  | nil => simp at hx
  | cons a l ih =>
    obtain ⟨h1, h2⟩ := List.pairwise_cons.1 h
    rcases List.mem_cons.1 hx with e3 | hx2
    · rcases List.mem_cons.1 hy with e4 | hy2
      · rw [e3, e4]
      · have := h1 y hy2
        rw [← e3] at this
        unfold Rw.lt at this
        omega
    · rcases List.mem_cons.1 hy with e4 | hy2
      · have := h1 x hx2
        rw [← e4] at this
        unfold Rw.lt at this
        omega
      · exact ih h2 hx2 hy2
/-- The frame of a page. -/
def atR (l : List Rw) (s p : Int) : Option Rw := l.find? fun x => x.s == s && x.p == p
theorem at_some {l : List Rw} {s p : Int} {x : Rw} (h : atR l s p = some x) : x ∈ l ∧ x.s = s ∧ x.p = p := by
  have h1 := List.find?_some h
  simp at h1
  exact ⟨List.mem_of_find?_eq_some h, h1.1, h1.2⟩
theorem at_none {l : List Rw} {s p : Int} (h : atR l s p = none) {x : Rw} (hx : x ∈ l) : ¬ (x.s = s ∧ x.p = p) := by
  have := List.find?_eq_none.1 h x hx
  simpa using this
theorem at_mem {l : List Rw} (h : RisR l) {x : Rw} (hx : x ∈ l) : atR l x.s x.p = some x := by
  cases e : atR l x.s x.p with
  | none => exact absurd ⟨rfl, rfl⟩ (at_none e hx)
  | some y =>
    obtain ⟨h1, h2, h3⟩ := at_some e
    rw [ris_one h h1 hx h2 h3]
/-- A row put at its place. -/
def putR : List Rw → Rw → List Rw
  | [], x => [x]
  | a :: l, x => if x.s < a.s ∨ (x.s = a.s ∧ x.p < a.p) then x :: a :: l else a :: putR l x
theorem put_mem (x : Rw) : ∀ (l : List Rw) (y : Rw), y ∈ putR l x ↔ y = x ∨ y ∈ l
  | [], y => by simp [putR]
  | a :: l, y => by
    rw [putR]
    by_cases c : x.s < a.s ∨ (x.s = a.s ∧ x.p < a.p)
    · rw [if_pos c]
      simp
    · rw [if_neg c, List.mem_cons, put_mem x l y, List.mem_cons]
      constructor
      · rintro (h | h | h)
        · exact Or.inr (Or.inl h)
        · exact Or.inl h
        · exact Or.inr (Or.inr h)
      · rintro (h | h | h)
        · exact Or.inr (Or.inl h)
        · exact Or.inl h
        · exact Or.inr (Or.inr h)
theorem put_ris (x : Rw) : ∀ {l : List Rw}, RisR l → atR l x.s x.p = none → RisR (putR l x)
  | [], _, _ => List.pairwise_singleton _ _
  | a :: l, h, hn => by
    obtain ⟨h1, h2⟩ := List.pairwise_cons.1 h
    have ha := at_none hn (x := a) (by simp)
    rw [putR]
    by_cases c : x.s < a.s ∨ (x.s = a.s ∧ x.p < a.p)
    · rw [if_pos c]
      refine List.pairwise_cons.2 ⟨fun y hy => ?_, h⟩
      rcases List.mem_cons.1 hy with rfl | hy
      · exact c
      · exact Rw.lt_trans c (h1 y hy)
    · rw [if_neg c]
      refine List.pairwise_cons.2 ⟨fun y hy => ?_, put_ris x h2 ?_⟩
      · rcases (put_mem x l y).1 hy with rfl | hy
        · unfold Rw.lt
          omega
        · exact h1 y hy
      · refine List.find?_eq_none.2 fun y hy => ?_
        have := at_none hn (x := y) (List.mem_cons_of_mem _ hy)
        simpa using this
theorem put_len (x : Rw) : ∀ l : List Rw, (putR l x).length = l.length + 1
  | [] => rfl
  | a :: l => by
    rw [putR]
    split
    · rfl
    · rw [List.length_cons, put_len x l, List.length_cons]
theorem put_may {l : List Rw} {x : Rw} (h : MayR l) (hx : x.may) (hn : atR l x.s x.p = none) : MayR (putR l x) :=
  ⟨put_ris x h.1 hn, fun y hy => by
    rcases (put_mem x l y).1 hy with rfl | hy
    · exact hx
    · exact h.2 y hy⟩
/-- All rows but that of a page. -/
def dropR (l : List Rw) (s p : Int) : List Rw := l.filter fun x => !(x.s == s && x.p == p)
theorem drop_mem {l : List Rw} {s p : Int} {y : Rw} : y ∈ dropR l s p ↔ y ∈ l ∧ ¬ (y.s = s ∧ y.p = p) := by
  unfold dropR
  rw [List.mem_filter]
  by_cases c : y.s = s <;> by_cases d : y.p = p <;> simp [c, d]
theorem drop_may {l : List Rw} (h : MayR l) (s p : Int) : MayR (dropR l s p) := ⟨h.1.filter _, fun y hy => h.2 y (drop_mem.1 hy).1⟩
/-- The rows but the one at i, as the document drops it. -/
theorem drop_at {l : List Rw} (h : RisR l) {i : Nat} (hi : i < l.length) : l.take i ++ l.drop (i + 1) = dropR l l[i].s l[i].p := by
  refine ris_ext ?_ (h.filter _) fun y => ?_
  · rw [← List.eraseIdx_eq_take_drop_succ]
    exact h.sublist (List.eraseIdx_sublist _ _)
  · rw [← List.eraseIdx_eq_take_drop_succ, drop_mem]
    constructor
    · intro hy
      obtain ⟨j, hj, e⟩ := List.mem_eraseIdx_iff_getElem.1 hy
      obtain ⟨hne, e⟩ := e
      refine ⟨by rw [← e]; exact List.getElem_mem hj, fun k => hne ?_⟩
      rw [← e] at k
      rcases Nat.lt_trichotomy j i with c | c | c
      · have := List.pairwise_iff_getElem.1 h j i hj hi c
        unfold Rw.lt at this
        omega
      · exact c
      · have := List.pairwise_iff_getElem.1 h i j hi hj c
        unfold Rw.lt at this
        omega
    · rintro ⟨hy, hk⟩
      obtain ⟨j, hj, rfl⟩ := List.mem_iff_getElem.1 hy
      exact List.mem_eraseIdx_iff_getElem.2 ⟨j, hj, fun e => hk (by subst e; exact ⟨rfl, rfl⟩), rfl⟩
/-- All that has the one has the other. -/
def moveR (l : List Rw) (a b : Int) : List Rw := l.map fun x => if x.f = a then { x with f := b } else x
theorem move_ris {l : List Rw} (h : RisR l) (a b : Int) : RisR (moveR l a b) := by
  unfold moveR RisR
  rw [List.pairwise_map]
  refine List.Pairwise.imp (fun {x y} k => ?_) h
  unfold Rw.lt at *
  split <;> split <;> exact k
theorem move_may {l : List Rw} (h : MayR l) (a : Int) {b : Int} (h0 : 0 ≤ b) (h1 : b < 512) : MayR (moveR l a b) := by
  refine ⟨move_ris h.1 a b, fun y hy => ?_⟩
  obtain ⟨x, hx, rfl⟩ := List.mem_map.1 hy
  obtain ⟨m1, m2, m3⟩ := h.2 x hx
  by_cases c : x.f = a
  · rw [if_pos c]
    exact ⟨h0, h1, m3⟩
  · rw [if_neg c]
    exact ⟨m1, m2, m3⟩
/-- The pages of a frame, of a space. -/
def ofR (l : List Rw) (f : Int) : List Rw := l.filter fun x => x.f == f
def pagesR (l : List Rw) (s : Int) : List Rw := l.filter fun x => x.s == s
theorem of_mem {l : List Rw} {f : Int} {y : Rw} : y ∈ ofR l f ↔ y ∈ l ∧ y.f = f := by
  unfold ofR
  rw [List.mem_filter]
  simp
theorem pages_mem {l : List Rw} {s : Int} {y : Rw} : y ∈ pagesR l s ↔ y ∈ l ∧ y.s = s := by
  unfold pagesR
  rw [List.mem_filter]
  simp
theorem of_ris {l : List Rw} (h : RisR l) (f : Int) : RisR (ofR l f) := h.filter _
theorem pages_ris {l : List Rw} (h : RisR l) (s : Int) : RisR (pagesR l s) := h.filter _
/-- The frames that something has, rising. -/
def framesR (l : List Rw) : List Nat := (List.range 512).filter fun f => l.any fun x => x.f == (f : Int)
theorem frames_mem {l : List Rw} (h : MayR l) {f : Nat} : f ∈ framesR l ↔ ∃ x ∈ l, x.f = f := by
  unfold framesR
  rw [List.mem_filter]
  simp only [List.mem_range, List.any_eq_true, beq_iff_eq]
  constructor
  · rintro ⟨_, k⟩
    exact k
  · rintro ⟨x, hx, e⟩
    have := (h.2 x hx).2.1
    exact ⟨by omega, x, hx, e⟩
theorem frames_ris (l : List Rw) : (framesR l).Pairwise (· < ·) := List.Pairwise.filter _ (List.pairwise_lt_range)
theorem move_of {l : List Rw} {a b : Int} (hab : a ≠ b) (hb : ∀ x ∈ l, x.f ≠ b) : ofR (moveR l a b) a = [] ∧ (ofR (moveR l a b) b).map (fun x => (x.s, x.p)) = (ofR l a).map fun x => (x.s, x.p) := by
  constructor
  · refine List.filter_eq_nil_iff.2 fun y hy => ?_
    obtain ⟨x, hx, rfl⟩ := List.mem_map.1 hy
    by_cases c : x.f = a
    · rw [if_pos c]
      simpa using fun e => hab e.symm
    · rw [if_neg c]
      simpa using c
  · induction l with
    | nil => rfl
    | cons x l ih =>
      have ih' := ih fun y hy => hb y (List.mem_cons_of_mem _ hy)
      have hx := hb x (by simp)
      unfold ofR moveR at *
      rw [List.map_cons]
      by_cases c : x.f = a
      · rw [if_pos c, List.filter_cons_of_pos (by simp), List.filter_cons_of_pos (by simpa using c), List.map_cons, List.map_cons, ih']
      · rw [if_neg c, List.filter_cons_of_neg (by simpa using hx), List.filter_cons_of_neg (by simpa using c), ih']
/-- How many of the first i are so. -/
def cntR (t : Rw → Bool) (l : List Rw) (i : Nat) : Nat := ((l.take i).filter t).length
theorem cnt_zero (t : Rw → Bool) (l : List Rw) : cntR t l 0 = 0 := by simp [cntR]
theorem cnt_all (t : Rw → Bool) (l : List Rw) : cntR t l l.length = (l.filter t).length := by simp [cntR]
theorem cnt_next (t : Rw → Bool) {l : List Rw} {i : Nat} (hi : i < l.length) : cntR t l (i + 1) = cntR t l i + if t l[i] then 1 else 0 := by
  unfold cntR
  rw [List.take_add_one, List.getElem?_eq_getElem hi, List.filter_append, List.length_append]
  cases h : t l[i] <;> simp [h]
theorem cnt_le (t : Rw → Bool) (l : List Rw) (i : Nat) : cntR t l i ≤ (l.filter t).length := by
  have h := List.filter_append (p := t) (l.take i) (l.drop i)
  rw [List.take_append_drop] at h
  rw [h, List.length_append]
  unfold cntR
  omega
/-- The one at i stands where the ones ahead of it end. -/
theorem cnt_get (t : Rw → Bool) {l : List Rw} {i : Nat} (hi : i < l.length) (ht : t l[i] = true) : (l.filter t)[cntR t l i]? = some l[i] := by
  have h := List.filter_append (p := t) (l.take i) (l.drop i)
  rw [List.take_append_drop] at h
  rw [h]
  unfold cntR
  rw [List.getElem?_append_right (Nat.le_refl _), Nat.sub_self, List.drop_eq_getElem_cons hi, List.filter_cons_of_pos ht]
  rfl
theorem cnt_of {l : List Rw} (h : MayR l) (f : Nat) : f ∈ framesR l ↔ (ofR l f).length ≠ 0 := by
  rw [frames_mem h]
  constructor
  · rintro ⟨x, hx, e⟩ k
    have := List.length_eq_zero_iff.1 k
    have hm := of_mem.2 ⟨hx, e⟩
    rw [this] at hm
    simp at hm
  · intro k
    obtain ⟨x, hx⟩ := List.exists_mem_of_length_pos (Nat.pos_of_ne_zero k)
    exact ⟨x, (of_mem.1 hx).1, (of_mem.1 hx).2⟩
end Go.Proofs.Ytdeaniigimmoaaa
/- Rows of pages (api.Where), of pages of one space (api.Mapped), of the document's rows, of numbers. -/
namespace Go.Proofs.Ytdeaniigimmoaaa
open Go.RowKit

def whC (x : Rw) : List Value := [.int .i64 x.s, .int .i64 x.p]
theorem whC_one (x : Rw) : ∀ u ∈ whC x, u.oneCell' = true := by
  intro u hu
  simp only [whC, List.mem_cons, List.not_mem_nil, or_false] at hu
  rcases hu with rfl | rfl <;> rfl
def rWh : Rec Rw := ⟨28, 2, 16, ⟨0, 0, 0⟩, whC, fun _ => rfl, by decide, whC_one⟩
theorem rWh.kin : Kin Try.prog rWh 49 := Kin.of (z := .agg #[.int .i64 0, .int .i64 0]) Try.underlying49 (by kernel_rfl) rfl
theorem rWh.zone : ∀ i z, Try.prog.info? rWh.t = some i → i.zero = some z → ∀ u ∈ z.cells, u.oneCell' = true := by
  intro i z hi hz
  have h : (Try.prog.info? 28).map (fun i => i.zero) = some (some (.agg #[.int .i64 0, .int .i64 0])) := by kernel_rfl
  rw [show Try.prog.info? 28 = some i from hi, Option.map_some, hz] at h
  simp at h
  subst h
  intro u hu
  simp [Value.cells] at hu
  subst hu
  rfl
theorem rWh.at {w : World} {b o : Nat} {d : Rw} (h : At rWh w b o d) : w.cell? ⟨b, o, none⟩ = some (.int .i64 d.s) ∧ w.cell? ⟨b, o + 1, none⟩ = some (.int .i64 d.p) := ⟨h 0 (by decide), h 1 (by decide)⟩
/-- A page as a value. -/
def wv (s p : Int) : Value := .agg #[.int .i64 s, .int .i64 p]

def mpC (x : Rw) : List Value := [.int .i64 x.p, .int .i64 x.f]
theorem mpC_one (x : Rw) : ∀ u ∈ mpC x, u.oneCell' = true := by
  intro u hu
  simp only [mpC, List.mem_cons, List.not_mem_nil, or_false] at hu
  rcases hu with rfl | rfl <;> rfl
def rMp : Rec Rw := ⟨70, 2, 16, ⟨0, 0, 0⟩, mpC, fun _ => rfl, by decide, mpC_one⟩
theorem rMp.kin : Kin Try.prog rMp 52 := Kin.of (z := .agg #[.int .i64 0, .int .i64 0]) Try.underlying52 (by kernel_rfl) rfl
theorem rMp.at {w : World} {b o : Nat} {d : Rw} (h : At rMp w b o d) : w.cell? ⟨b, o, none⟩ = some (.int .i64 d.p) ∧ w.cell? ⟨b, o + 1, none⟩ = some (.int .i64 d.f) := ⟨h 0 (by decide), h 1 (by decide)⟩

def rwC (x : Rw) : List Value := [.int .i64 x.s, .int .i64 x.p, .int .i64 x.f]
theorem rwC_one (x : Rw) : ∀ u ∈ rwC x, u.oneCell' = true := by
  intro u hu
  simp only [rwC, List.mem_cons, List.not_mem_nil, or_false] at hu
  rcases hu with rfl | rfl | rfl <;> rfl
def rRw : Rec Rw := ⟨40, 3, 24, ⟨0, 0, 0⟩, rwC, fun _ => rfl, by decide, rwC_one⟩
theorem rRw.kin : Kin Try.prog rRw 26 := Kin.of (z := .agg #[.int .i64 0, .int .i64 0, .int .i64 0]) Try.underlying26 (by kernel_rfl) rfl
theorem rRw.at {w : World} {b o : Nat} {d : Rw} (h : At rRw w b o d) : w.cell? ⟨b, o, none⟩ = some (.int .i64 d.s) ∧ w.cell? ⟨b, o + 1, none⟩ = some (.int .i64 d.p) ∧ w.cell? ⟨b, o + 2, none⟩ = some (.int .i64 d.f) := ⟨h 0 (by decide), h 1 (by decide), h 2 (by decide)⟩

/-- Numbers in a row. -/
def rNm : Rec Int := ⟨3, 1, 8, 0, fun x => [.int .i64 x], fun _ => rfl, by decide, fun x u hu => by simp at hu; rw [hu]; rfl⟩
theorem rNm.kin : Kin Try.prog rNm 47 := Kin.of (z := .int .i64 0) Try.underlying47 (by kernel_rfl) rfl
theorem rNm.zero : ∀ i z, Try.prog.info? rNm.t = some i → i.zero = some z → z.cells = (rNm.cells rNm.zero).toArray := by
  intro i z hi hz
  have h : (Try.prog.info? 3).map (fun i => i.zero) = some (some (.int .i64 0)) := by kernel_rfl
  rw [show Try.prog.info? 3 = some i from hi, Option.map_some, hz] at h
  simp at h
  subst h
  rfl
theorem rNm.at {w : World} {b o : Nat} {d : Int} (h : At rNm w b o d) : w.cell? ⟨b, o, none⟩ = some (.int .i64 d) := h 0 (by decide)
/-- Rows that look alike. -/
theorem Row.look {α β : Type} {R : Rec α} {S : Rec β} {B : Nat} {w : World} {v : Value} {l : List α} {m : List β} (h : Row R B w v l) (ht : R.t = S.t) (hn : R.n = S.n) (hl : l.length = m.length) (ha : R.all l = S.all m) : Row S B w v m := by
  unfold Row at *
  rw [← ht, ← hn, ← hl, ← ha]
  exact h
theorem all_move (l : List Rw) (b : Int) : rWh.all (l.map fun x => { x with f := b }) = rWh.all l := by
  induction l with
  | nil => rfl
  | cons x l ih => rw [List.map_cons, rWh.all_cons, rWh.all_cons, ih]; rfl
end Go.Proofs.Ytdeaniigimmoaaa
/- What becomes of frames of pages and of pages of frames, behind puts, drops and moves. No word of the program. -/
namespace Go.Proofs.Ytdeaniigimmoaaa

/-- Which frame a page has; which pages a frame has. -/
abbrev Fr := Int → Int → Option Int
abbrev Pg := Int → List Rw
def Fr.set (F : Fr) (s p : Int) (o : Option Int) : Fr := fun a b => if a = s ∧ b = p then o else F a b
def Pg.set (G : Pg) (f : Int) (l : List Rw) : Pg := fun a => if a = f then l else G a
def frF (l : List Rw) : Fr := fun s p => (atR l s p).map fun x => x.f
def zR : Rw := ⟨0, 0, 0⟩
/-- Where a page would stand. -/
def PosR (L : List Rw) (x : Rw) (i : Nat) : Prop := i ≤ L.length ∧ (∀ j, j < i → (L.getD j zR).lt x) ∧ ∀ j, i ≤ j → j < L.length → ¬ (L.getD j zR).lt x
theorem ris_at {L : List Rw} (h : RisR L) {i j : Nat} (hij : i < j) (hj : j < L.length) : (L.getD i zR).lt (L.getD j zR) := by
  have := List.pairwise_iff_getElem.1 h i j (by omega) hj hij
  rw [List.getD_eq_getElem?_getD, List.getD_eq_getElem?_getD, List.getElem?_eq_getElem (by omega : i < L.length), List.getElem?_eq_getElem hj]
  exact this
section
variable {l : List Rw} {s p f : Int}
theorem fr_iff (h : RisR l) : frF l s p = some f ↔ Rw.mk s p f ∈ l := by
  unfold frF
  constructor
  · intro e
    obtain ⟨x, hx, rfl⟩ := Option.map_eq_some_iff.1 e
    obtain ⟨h1, rfl, rfl⟩ := at_some hx
    exact h1
  · intro hm
    have := at_mem h hm
    rw [show atR l s p = some ⟨s, p, f⟩ from this]
    rfl
theorem fr_ext {F : Fr} (h : RisR l) (he : ∀ a b c, F a b = some c ↔ Rw.mk a b c ∈ l) : F = frF l := by
  funext a b
  apply Option.ext
  intro c
  rw [he, fr_iff h]
theorem fr_at : frF l s p = none ↔ atR l s p = none := by
  unfold frF
  rw [Option.map_eq_none_iff]
theorem frF_put (h : MayR l) (hn : atR l s p = none) : (frF l).set s p (some f) = frF (putR l ⟨s, p, f⟩) := by
  refine fr_ext (put_ris ⟨s, p, f⟩ h.1 hn) fun a b c => ?_
  rw [put_mem]
  unfold Fr.set
  by_cases e : a = s ∧ b = p
  · rw [if_pos e]
    obtain ⟨rfl, rfl⟩ := e
    constructor
    · intro k
      exact Or.inl (by simp at k; rw [k])
    · rintro (k | k)
      · simp at k
        rw [k]
      · exact absurd ⟨rfl, rfl⟩ (at_none hn k)
  · rw [if_neg e, fr_iff h.1]
    constructor
    · exact Or.inr
    · rintro (k | k)
      · simp at k
        exact absurd ⟨k.1, k.2.1⟩ e
      · exact k
theorem frF_drop (h : MayR l) (s p : Int) : (frF l).set s p none = frF (dropR l s p) := by
  refine fr_ext (drop_may h s p).1 fun a b c => ?_
  rw [drop_mem]
  unfold Fr.set
  by_cases e : a = s ∧ b = p
  · rw [if_pos e]
    simp [e]
  · rw [if_neg e, fr_iff h.1]
    simp only [e, not_false_eq_true, and_true]
theorem frF_move (h : MayR l) (a b : Int) : frF (moveR l a b) = fun s p => (frF l s p).map fun f => if f = a then b else f := by
  refine (fr_ext (move_ris h.1 a b) fun s p c => ?_).symm
  unfold moveR
  rw [Option.map_eq_some_iff, List.mem_map]
  constructor
  · rintro ⟨g, hg, e⟩
    refine ⟨_, (fr_iff h.1).1 hg, ?_⟩
    by_cases k : g = a
    · rw [if_pos k] at e
      rw [if_pos k, e]
    · rw [if_neg k] at e
      rw [if_neg k, e]
  · rintro ⟨x, hx, e⟩
    refine ⟨x.f, ?_, ?_⟩
    · rw [fr_iff h.1]
      by_cases k : x.f = a
      · rw [if_pos k] at e
        simp at e
        rw [← e.1, ← e.2.1]
        exact hx
      · rw [if_neg k] at e
        rw [e] at hx ⊢
        exact hx
    · by_cases k : x.f = a
      · rw [if_pos k] at e ⊢
        simp at e
        exact e.2.2
      · rw [if_neg k] at e ⊢
        rw [e]
theorem pos_split {L : List Rw} {x : Rw} {i : Nat} (h : PosR L x i) : (∀ y ∈ L.take i, y.lt x) ∧ ∀ y ∈ L.drop i, ¬ y.lt x := by
  obtain ⟨h0, h1, h2⟩ := h
  constructor
  · intro y hy
    obtain ⟨j, hj, rfl⟩ := List.mem_iff_getElem.1 hy
    rw [List.length_take] at hj
    have := h1 j (by omega)
    rw [List.getD_eq_getElem?_getD, List.getElem?_eq_getElem (by omega : j < L.length)] at this
    rw [List.getElem_take]
    exact this
  · intro y hy
    obtain ⟨j, hj, rfl⟩ := List.mem_iff_getElem.1 hy
    rw [List.length_drop] at hj
    have := h2 (i + j) (by omega) (by omega)
    rw [List.getD_eq_getElem?_getD, List.getElem?_eq_getElem (by omega : i + j < L.length)] at this
    rw [List.getElem_drop]
    exact this
theorem of_put (h : MayR l) {x : Rw} (hn : atR l x.s x.p = none) {i : Nat} (hp : PosR (ofR l x.f) x i) : Pg.set (ofR l) x.f ((ofR l x.f).take i ++ ([x] ++ (ofR l x.f).drop i)) = ofR (putR l x) := by
  funext a
  unfold Pg.set
  have hr := put_ris x h.1 hn
  obtain ⟨h1, h2⟩ := pos_split hp
  by_cases e : a = x.f
  · rw [if_pos e, e]
    have ho := of_ris h.1 x.f
    rw [show RisR (ofR l x.f) ↔ RisR ((ofR l x.f).take i ++ (ofR l x.f).drop i) by rw [List.take_append_drop]] at ho
    obtain ⟨o1, o2, o3⟩ := List.pairwise_append.1 ho
    refine ris_ext ?_ (of_ris hr x.f) fun y => ?_
    · refine List.pairwise_append.2 ⟨o1, List.pairwise_append.2 ⟨List.pairwise_singleton _ _, o2, fun y hy z hz => ?_⟩, fun y hy z hz => ?_⟩
      · simp at hy
        subst hy
        have hz2 := (of_mem.1 (List.drop_subset _ _ hz)).1
        rcases Rw.lt_tri y z with k | k | k
        · exact k
        · exact absurd ⟨k.1.symm, k.2.symm⟩ (at_none hn hz2)
        · exact absurd k (h2 z hz)
      · rcases List.mem_append.1 hz with hz | hz
        · simp at hz
          subst hz
          exact h1 y hy
        · exact o3 y hy z hz
    · rw [of_mem, put_mem]
      have key : y ∈ (ofR l x.f).take i ++ ([x] ++ (ofR l x.f).drop i) ↔ y = x ∨ y ∈ ofR l x.f := by
        conv => rhs; rw [show ofR l x.f = (ofR l x.f).take i ++ (ofR l x.f).drop i by rw [List.take_append_drop]]
        simp only [List.mem_append, List.mem_singleton]
        constructor
        · rintro (k | k | k)
          · exact Or.inr (Or.inl k)
          · exact Or.inl k
          · exact Or.inr (Or.inr k)
        · rintro (k | k | k)
          · exact Or.inr (Or.inl k)
          · exact Or.inl k
          · exact Or.inr (Or.inr k)
      rw [key, of_mem]
      constructor
      · rintro (k | k)
        · exact ⟨Or.inl k, by rw [k]⟩
        · exact ⟨Or.inr k.1, k.2⟩
      · rintro ⟨k | k, g⟩
        · exact Or.inl k
        · exact Or.inr ⟨k, g⟩
  · rw [if_neg e]
    refine ris_ext (of_ris h.1 a) (of_ris hr a) fun y => ?_
    rw [of_mem, of_mem, put_mem]
    constructor
    · rintro ⟨k, g⟩
      exact ⟨Or.inr k, g⟩
    · rintro ⟨k | k, g⟩
      · exact absurd (by rw [← g, k]) e
      · exact ⟨k, g⟩
/-- A page that has a frame stands where it would stand. -/
theorem pos_at {L : List Rw} (hr : RisR L) {x : Rw} {i : Nat} (hp : PosR L x i) (hx : x ∈ L) : i < L.length ∧ L.getD i zR = x := by
  obtain ⟨h0, h1, h2⟩ := hp
  obtain ⟨k, hk, rfl⟩ := List.mem_iff_getElem.1 hx
  have ek : L.getD k zR = L[k] := by rw [List.getD_eq_getElem?_getD, List.getElem?_eq_getElem hk]; rfl
  have hik : i ≤ k := by
    rcases Nat.lt_or_ge k i with c | c
    · have := h1 k c
      rw [ek] at this
      exact absurd this (Rw.lt_irrefl _)
    · exact c
  have : i = k := by
    rcases Nat.lt_or_eq_of_le hik with c | c
    · have := ris_at hr c hk
      rw [ek] at this
      exact absurd this (h2 i (Nat.le_refl _) (by omega))
    · exact c
  subst this
  exact ⟨hk, ek⟩
theorem of_drop (h : MayR l) {x : Rw} (hx : x ∈ l) {i : Nat} (hp : PosR (ofR l x.f) x i) : Pg.set (ofR l) x.f ((ofR l x.f).take i ++ (ofR l x.f).drop (i + 1)) = ofR (dropR l x.s x.p) := by
  funext a
  unfold Pg.set
  have hd := drop_may h x.s x.p
  by_cases e : a = x.f
  · rw [if_pos e, e]
    obtain ⟨h1, h2⟩ := pos_at (of_ris h.1 x.f) hp (of_mem.2 ⟨hx, rfl⟩)
    have h3 := drop_at (of_ris h.1 x.f) h1
    have e2 : (ofR l x.f)[i] = x := by
      rw [List.getD_eq_getElem?_getD, List.getElem?_eq_getElem h1] at h2
      exact h2
    rw [h3, e2]
    refine ris_ext ((of_ris h.1 x.f).filter _) (of_ris hd.1 x.f) fun y => ?_
    rw [of_mem, drop_mem, drop_mem, of_mem]
    constructor
    · rintro ⟨⟨k1, k2⟩, k3⟩
      exact ⟨⟨k1, k3⟩, k2⟩
    · rintro ⟨⟨k1, k3⟩, k2⟩
      exact ⟨⟨k1, k2⟩, k3⟩
  · rw [if_neg e]
    refine ris_ext (of_ris h.1 a) (of_ris hd.1 a) fun y => ?_
    rw [of_mem, of_mem, drop_mem]
    constructor
    · rintro ⟨k, g⟩
      refine ⟨⟨k, fun c => e ?_⟩, g⟩
      rw [← g, ris_one h.1 k hx c.1 c.2]
    · rintro ⟨⟨k, _⟩, g⟩
      exact ⟨k, g⟩
theorem of_drop_len (h : MayR l) {x : Rw} (hx : x ∈ l) : (ofR (dropR l x.s x.p) x.f).length + 1 = (ofR l x.f).length := by
  have hm := of_mem.2 ⟨hx, rfl⟩
  obtain ⟨k, hk, e⟩ := List.mem_iff_getElem.1 hm
  have h3 := drop_at (of_ris h.1 x.f) hk
  rw [e] at h3
  have h4 : ofR (dropR l x.s x.p) x.f = dropR (ofR l x.f) x.s x.p := by
    refine ris_ext (of_ris (drop_may h x.s x.p).1 x.f) ((of_ris h.1 x.f).filter _) fun y => ?_
    rw [of_mem, drop_mem, drop_mem, of_mem]
    constructor
    · rintro ⟨⟨k1, k3⟩, k2⟩
      exact ⟨⟨k1, k2⟩, k3⟩
    · rintro ⟨⟨k1, k2⟩, k3⟩
      exact ⟨⟨k1, k3⟩, k2⟩
  rw [h4, ← h3, List.length_append, List.length_take, List.length_drop]
  omega
theorem of_drop0 (h : MayR l) {x : Rw} (hx : x ∈ l) : Pg.set (ofR l) x.f (ofR (dropR l x.s x.p) x.f) = ofR (dropR l x.s x.p) := by
  funext a
  unfold Pg.set
  by_cases e : a = x.f
  · rw [if_pos e, e]
  · rw [if_neg e]
    refine ris_ext (of_ris h.1 a) (of_ris (drop_may h x.s x.p).1 a) fun y => ?_
    rw [of_mem, of_mem, drop_mem]
    constructor
    · rintro ⟨k, g⟩
      refine ⟨⟨k, fun c => e ?_⟩, g⟩
      rw [← g, ris_one h.1 k hx c.1 c.2]
    · rintro ⟨⟨k, _⟩, g⟩
      exact ⟨k, g⟩
theorem of_move {a b : Int} (hab : a ≠ b) (hb : ofR l b = []) : ofR (moveR l a b) = Pg.set (Pg.set (ofR l) b ((ofR l a).map fun x => { x with f := b })) a [] := by
  have hb' : ∀ x ∈ l, x.f ≠ b := fun x hx e => by
    have := of_mem.2 ⟨hx, e⟩
    rw [hb] at this
    simp at this
  clear hb
  funext c
  unfold Pg.set
  induction l with
  | nil =>
    show [] = _
    by_cases h1 : c = a
    · rw [if_pos h1]
    · rw [if_neg h1]
      by_cases h2 : c = b
      · rw [if_pos h2]; rfl
      · rw [if_neg h2]; rfl
  | cons x l ih =>
    have ih' := ih fun y hy => hb' y (List.mem_cons_of_mem _ hy)
    have hx := hb' x (by simp)
    unfold ofR moveR at *
    rw [List.map_cons]
    by_cases h1 : c = a
    · rw [if_pos h1] at ih' ⊢
      subst h1
      by_cases k : x.f = c
      · rw [if_pos k, List.filter_cons_of_neg (by simpa using Ne.symm hab), ih']
      · rw [if_neg k, List.filter_cons_of_neg (by simpa using k), ih']
    · rw [if_neg h1] at ih' ⊢
      by_cases h2 : c = b
      · rw [if_pos h2] at ih' ⊢
        subst h2
        by_cases k : x.f = a
        · rw [if_pos k, List.filter_cons_of_pos (by simp), ih', List.filter_cons_of_pos (by simpa using k), List.map_cons]
        · rw [if_neg k, List.filter_cons_of_neg (by simpa using hx), ih', List.filter_cons_of_neg (by simpa using k)]
      · rw [if_neg h2] at ih' ⊢
        by_cases k : x.f = a
        · rw [if_pos k, List.filter_cons_of_neg (by simpa using Ne.symm h2), ih', List.filter_cons_of_neg (by simpa using fun e => h1 (by rw [← e, k]))]
        · rw [if_neg k]
          by_cases k2 : x.f = c
          · rw [List.filter_cons_of_pos (by simpa using k2), ih', List.filter_cons_of_pos (by simpa using k2)]
          · rw [List.filter_cons_of_neg (by simpa using k2), ih', List.filter_cons_of_neg (by simpa using k2)]
/-- Pages given one frame, one by one. -/
def givF (b : Int) (L : List Rw) (F : Fr) : Fr := L.foldl (fun F x => F.set x.s x.p (some b)) F
theorem giv_next (b : Int) {L : List Rw} (F : Fr) {k : Nat} (hk : k < L.length) : (givF b (L.take k) F).set (L.getD k zR).s (L.getD k zR).p (some b) = givF b (L.take (k + 1)) F := by
  unfold givF
  rw [List.take_add_one, List.getElem?_eq_getElem hk, List.foldl_append, List.getD_eq_getElem?_getD, List.getElem?_eq_getElem hk]
  rfl
theorem giv_at (b : Int) : ∀ (L : List Rw) (F : Fr) (s p : Int), givF b L F s p = if ∃ x ∈ L, x.s = s ∧ x.p = p then some b else F s p
  | [], F, s, p => by simp [givF]
  | y :: L, F, s, p => by
    have h := giv_at b L (F.set y.s y.p (some b)) s p
    rw [show givF b (y :: L) F = givF b L (F.set y.s y.p (some b)) from rfl, h]
    by_cases c : ∃ x ∈ L, x.s = s ∧ x.p = p
    · rw [if_pos c, if_pos (by obtain ⟨x, hx, e⟩ := c; exact ⟨x, List.mem_cons_of_mem _ hx, e⟩)]
    · rw [if_neg c]
      unfold Fr.set
      by_cases d : s = y.s ∧ p = y.p
      · rw [if_pos d, if_pos ⟨y, by simp, d.1.symm, d.2.symm⟩]
      · rw [if_neg d, if_neg]
        rintro ⟨x, hx, e1, e2⟩
        rcases List.mem_cons.1 hx with rfl | hx
        · exact d ⟨e1.symm, e2.symm⟩
        · exact c ⟨x, hx, e1, e2⟩
theorem giv_move (h : MayR l) (a b : Int) : givF b (ofR l a) (frF l) = frF (moveR l a b) := by
  funext s p
  rw [giv_at, frF_move h]
  by_cases c : ∃ x ∈ ofR l a, x.s = s ∧ x.p = p
  · rw [if_pos c]
    obtain ⟨x, hx, rfl, rfl⟩ := c
    obtain ⟨h1, h2⟩ := of_mem.1 hx
    have h3 : frF l x.s x.p = some x.f := (fr_iff h.1).2 h1
    simp only [h3, Option.map_some, h2, if_true]
  · rw [if_neg c]
    cases e : frF l s p with
    | none => simp [e]
    | some f =>
      have h1 := (fr_iff h.1).1 e
      have h2 : f ≠ a := fun k => c ⟨_, of_mem.2 ⟨h1, k⟩, rfl, rfl⟩
      simp [e, h2]
theorem move_none {a : Int} (h : ofR l a = []) (b : Int) : moveR l a b = l := by
  unfold moveR
  conv => rhs; rw [← List.map_id l]
  refine List.map_congr_left fun x hx => ?_
  rw [if_neg fun e => by
    have := of_mem.2 ⟨hx, e⟩
    rw [h] at this
    simp at this]
  rfl
theorem of_len (l : List Rw) (f : Int) : (ofR l f).length ≤ l.length := List.length_filter_le _ _
end
end Go.Proofs.Ytdeaniigimmoaaa
/- How the program's map lies: frames of pages, pages of frames. -/
namespace Go.Proofs.Ytdeaniigimmoaaa
open Go.RowKit

theorem intKeyed : Maps.Keyed Try.prog 3 := Maps.int_keyed Try.underlying3
def okI (k : Int) : Prop := -9223372036854775808 ≤ k ∧ k ≤ 9223372036854775807
theorem i_inj {a b : Int} (h : Value.int .i64 a = Value.int .i64 b) : a = b := by simpa using h
theorem i_reads {a : Int} (h : okI a) : ∃ l, keyOf Try.prog 3 (.int .i64 a) = some l := by
  have w1 : (Lit.int .i64 a).wf = true := WalkArith.wf_i64 (by have := h.1; have := h.2; omega)
  exact ⟨.int .i64 a, by simp [keyOf, Try.underlying3, mapKey, w1]⟩
abbrev Ps := List (Int × Int)
/-- Of one space: its pages' frames. -/
def ppM : Mk Try.prog Int Int := { t := 76, k := 3, e := 3, key := fun k => .int .i64 k, val := fun k => .int .i64 k, ok := okI, law := intKeyed, ht := Try.underlying76, inj := i_inj, reads := i_reads }
/-- Of each space, where its pages' frames lie. -/
def ffM : Mk Try.prog Int (Nat × Ps) := { t := 56, k := 3, e := 76, key := fun k => .int .i64 k, val := fun x => .map (some x.1), ok := okI, law := intKeyed, ht := Try.underlying56, inj := i_inj, reads := i_reads }
/-- Of each frame, where its pages lie. -/
def whM : Mk Try.prog Int (Value × List Rw) := { t := 57, k := 3, e := 49, key := fun k => .int .i64 k, val := fun x => x.1, ok := okI, law := intKeyed, ht := Try.underlying57, inj := i_inj, reads := i_reads }
theorem zero_i (w : World) : (zeroValue 3).run Try.prog w = .ok (.int .i64 0) w := by
  obtain ⟨i0, hi, hz0, hz1, hz2⟩ := info_parts (P := Try.prog) (e := 3) (z := .int .i64 0) (size := 1) (bytes := 8) (by kernel_rfl)
  simp [zeroValue, typeInfo, hi, hz0]
theorem zero_pm (w : World) : (zeroValue 76).run Try.prog w = .ok (.map none) w := by
  obtain ⟨i0, hi, hz0, hz1, hz2⟩ := info_parts (P := Try.prog) (e := 76) (z := .map none) (size := 1) (bytes := 8) (by kernel_rfl)
  simp [zeroValue, typeInfo, hi, hz0]
theorem zero_ws (w : World) : (zeroValue 49).run Try.prog w = .ok (.slice none 0 0) w := by
  obtain ⟨i0, hi, hz0, hz1, hz2⟩ := info_parts (P := Try.prog) (e := 49) (z := .slice none 0 0) (size := 1) (bytes := 24) (by kernel_rfl)
  simp [zeroValue, typeInfo, hi, hz0]

abbrev FL := List (Int × (Nat × Ps))
abbrev PL := List (Int × (Value × List Rw))
def spT (x : Nat × Ps) : Th := Th.mp ppM x.1 x.2
def rwT (x : Value × List Rw) : Th := Th.row rWh x.1 x.2
def lk2 (L : FL) : Fr := fun s p => (getL L s).bind fun x => getL x.2 p
def lkP (L : PL) : Pg := fun f => match getL L f with | some x => x.2 | none => []
def FrT (b : Nat) (F : Fr) : Th := Th.ex fun L : FL => Th.when (lk2 L = F) (MX ffM spT b L)
def PgT (b : Nat) (G : Pg) : Th := Th.ex fun L : PL => Th.when (lkP L = G ∧ ∀ x ∈ L, x.2.2 ≠ []) (MX whM rwT b L)
/-- A map of the program's, X in the place of its pages of frames. -/
def RmY (m bf bp : Nat) (F : Fr) (X : Th) : Th := (Th.box m 59 #[.map (some bf), .map (some bp)]).and ((FrT bf F).and X)
abbrev RmX (m bf bp : Nat) (F : Fr) (G : Pg) : Th := RmY m bf bp F (PgT bp G)
def RmT (m : Nat) (l : List Rw) : Th := Th.ex fun d : Nat × Nat => Th.when (MayR l ∧ l.length ≤ 4096) (RmX m d.1 d.2 (frF l) (ofR l))

section
variable {A : Nat → Prop} {w : World} {m bf bp : Nat} {F : Fr} {G : Pg} {Y : Th}
theorem RmX.box (h : (RmY m bf bp F Y).In A w) : Laid w m 59 #[.map (some bf), .map (some bp)] := by
  obtain ⟨_, _, _, _, h1, _⟩ := h
  exact h1.2
theorem RmX.fr (h : (RmY m bf bp F Y).In A w) : ∃ C, (FrT bf F).In C w := by
  obtain ⟨_, _, _, _, _, C, _, _, _, h1, _⟩ := h
  exact ⟨C, h1⟩
theorem RmX.pg (h : (RmX m bf bp F G).In A w) : ∃ C, (PgT bp G).In C w := by
  obtain ⟨_, _, _, _, _, _, C, _, _, _, h1⟩ := h
  exact ⟨C, h1⟩
theorem rm_fr (h : (RmY m bf bp F Y).In A w) : ∃ C, (FrT bf F).In C w ∧ ∀ {F' : Fr} {w' : World}, Bec C w (FrT bf F') w' → Bec A w (RmY m bf bp F' Y) w' := by
  have h1 : ((FrT bf F).and ((Th.box m 59 #[.map (some bf), .map (some bp)]).and Y)).In A w := and_left _ _ _ h
  obtain ⟨C, h2, h3⟩ := In.open h1
  exact ⟨C, h2, fun k => (h3 k).imp (and_left _ _ _)⟩
theorem rm_y (h : (RmY m bf bp F Y).In A w) : ∃ C, Y.In C w ∧ ∀ {Y' : Th} {w' : World}, Bec C w Y' w' → Bec A w (RmY m bf bp F Y') w' := by
  have h1 : (Y.and ((Th.box m 59 #[.map (some bf), .map (some bp)]).and (FrT bf F))).In A w := and_left _ _ _ (and_mono (Th.le.refl _) (and_comm _ _) h)
  obtain ⟨C, h2, h3⟩ := In.open h1
  exact ⟨C, h2, fun k => ((h3 k).imp (and_left _ _ _)).imp (and_mono (Th.le.refl _) (and_comm _ _))⟩
end
section
variable {w : World} {b : Nat}
/-- What a look-up tells. -/
theorem get_ff {L : FL} (h : Mp ffM w b L) {s : Int} (hs : okI s) : (Instr.lookup 56 (.map (some b)) (.int .i64 s) false).run Try.prog w = .ok (.map ((getL L s).map fun x => x.1)) w := by
  have := h.get hs (zero_pm w)
  cases e : getL L s <;> rw [e] at this <;> exact this
theorem get_wh {L : PL} (h : Mp whM w b L) {f : Int} (hf : okI f) : (Instr.lookup 57 (.map (some b)) (.int .i64 f) false).run Try.prog w = .ok (match getL L f with | some x => x.1 | none => .slice none 0 0) w := by
  have := h.get hf (zero_ws w)
  cases e : getL L f <;> rw [e] at this <;> exact this
def pairV : Option Int → Value
  | some x => .tuple #[.int .i64 x, .bool true]
  | none => .tuple #[.int .i64 0, .bool false]
theorem look_pp {es : Ps} (h : Mp ppM w b es) {p : Int} (hp : okI p) : (Instr.lookup 76 (.map (some b)) (.int .i64 p) true).run Try.prog w = .ok (pairV (getL es p)) w := by
  have := h.look hp (zero_i w)
  cases e : getL es p <;> rw [e] at this <;> exact this
theorem get_pp {es : Ps} (h : Mp ppM w b es) {p : Int} (hp : okI p) : (Instr.lookup 76 (.map (some b)) (.int .i64 p) false).run Try.prog w = .ok (.int .i64 ((getL es p).getD 0)) w := by
  have := h.get hp (zero_i w)
  cases e : getL es p <;> rw [e] at this <;> exact this
theorem look_nil {p : Int} (hp : okI p) (w : World) : (Instr.lookup 76 (.map none) (.int .i64 p) true).run Try.prog w = .ok (pairV none) w := by
  obtain ⟨l, hl⟩ := i_reads hp
  rcases intKeyed.find w hl [] (by simp) with ⟨h1, _⟩ | ⟨j, e, _, h2, _⟩
  · simp [Instr.lookup, run_underlying Try.underlying76, intKeyed.check w _ hl, h1, zero_i w, Result.andThen, pairV]
  · simp at h2
end
theorem lk2_put (L : FL) (s : Int) (x : Nat × Ps) (a b : Int) : lk2 (putL L s x) a b = if a = s then getL x.2 b else lk2 L a b := by
  unfold lk2
  rw [getL_put]
  by_cases e : a = s <;> simp [e]
theorem lk2_del (L : FL) (s : Int) (a b : Int) : lk2 (delL L s) a b = if a = s then none else lk2 L a b := by
  unfold lk2
  rw [getL_del]
  by_cases e : a = s <;> simp [e]
theorem lkP_put (L : PL) (f : Int) (x : Value × List Rw) : lkP (putL L f x) = (lkP L).set f x.2 := by
  funext a
  unfold lkP Pg.set
  rw [getL_put]
  by_cases e : a = f <;> simp [e]
theorem lkP_del (L : PL) (f : Int) : lkP (delL L f) = (lkP L).set f [] := by
  funext a
  unfold lkP Pg.set
  rw [getL_del]
  by_cases e : a = f <;> simp [e]
theorem put_ne {L : PL} (h : ∀ x ∈ L, x.2.2 ≠ []) {f : Int} {x : Value × List Rw} (hx : x.2 ≠ []) : ∀ y ∈ putL L f x, y.2.2 ≠ [] := by
  intro y hy
  unfold putL at hy
  split at hy
  · obtain ⟨z, hz, rfl⟩ := List.mem_map.1 hy
    split
    · exact hx
    · exact h z hz
  · rcases List.mem_append.1 hy with hy | hy
    · exact h y hy
    · simp at hy
      rw [hy]
      exact hx
theorem del_ne {L : PL} (h : ∀ x ∈ L, x.2.2 ≠ []) {f : Int} : ∀ y ∈ delL L f, y.2.2 ≠ [] := fun y hy => h y (mem_delL hy).1
theorem lkP_nil {L : PL} (h : ∀ x ∈ L, x.2.2 ≠ []) (f : Int) : lkP L f = [] ↔ getL L f = none := by
  unfold lkP
  cases e : getL L f with
  | none => simp
  | some x => simpa using h _ (getL_mem e)
end Go.Proofs.Ytdeaniigimmoaaa
/- A region that draws its order: what is loaded is loaded first, where the operations that spoil it wait for it. -/
namespace Go.Proofs.Ytdeaniigimmoaaa
open Go.RowKit

section
variable {P : Program} {ops : Array Oper} {Q : Exit → Act → World → Prop} {md : Region.Mode} {S : World → Prop} {X : List Nat}

/-- Whatever order is picked from here on; behind every operation but those of X there holds S. -/
def wpAnyX (P : Program) (md : Region.Mode) (ops : Array Oper) (Q : Exit → Act → World → Prop) (S : World → Prop) (X : List Nat) : Nat → Array Bool → Act → World → Prop
  | 0, listed, a, w => Region.ready md ops listed = [] ∧ Q .normal a w
  | fuel + 1, listed, a, w =>
    (Region.ready md ops listed = [] → Q .normal a w) ∧
    ∀ i ∈ Region.ready md ops listed, wpOp P ops Q i (fun a' w' => (i ∉ X → S w') ∧ wpAnyX P md ops Q S X fuel (listed.setIfInBounds i true) a' w') a w
theorem wpAny_of_X : ∀ (fuel : Nat) (listed : Array Bool) (a : Act) (w : World), wpAnyX P md ops Q S X fuel listed a w → wpAny P md ops Q fuel listed a w
  | 0, _, _, _, h => h
  | fuel + 1, _, _, _, h => ⟨h.1, fun i hi => wpOp_mono (fun a' w' h' => wpAny_of_X fuel _ a' w' h'.2) (h.2 i hi)⟩

/-- What has come up came up behind what it waits for. -/
def closedX (md : Region.Mode) (ops : Array Oper) (listed : Array Bool) : Prop := ∀ j o, ops[j]? = some o → listed.getD j false = true → ∀ e ∈ o.after, Region.binds md e = true → listed.getD e.on false = true
def closedB (md : Region.Mode) (ops : Array Oper) (listed : Array Bool) : Bool :=
  (List.range ops.size).all fun j => !listed.getD j false || ((ops[j]?).map (·.after.all fun e => !Region.binds md e || listed.getD e.on false)).getD true
theorem closedB_spec {listed : Array Bool} (h : closedB md ops listed = true) : closedX md ops listed := by
  intro j o ho hj e he hb
  have hlt : j < ops.size := (Array.getElem?_eq_some_iff.1 ho).1
  have h1 := List.all_eq_true.1 h j (List.mem_range.2 hlt)
  rw [ho] at h1
  simp only [Option.map_some, Option.getD_some] at h1
  rw [hj] at h1
  simp only [Bool.not_true, Bool.false_or] at h1
  have h2 := Array.all_eq_true'.1 h1 e he
  rw [hb] at h2
  simpa using h2
theorem getD_set_cases {listed : Array Bool} {i j : Nat} (h : (listed.setIfInBounds i true).getD j false = true) : j = i ∨ listed.getD j false = true := by
  by_cases hij : i = j
  · exact Or.inl hij.symm
  · rw [getD_set_ne false hij] at h
    exact Or.inr h
theorem closedX_step {listed : Array Bool} {i : Nat} (hc : closedX md ops listed) (hi : i ∈ Region.ready md ops listed) : closedX md ops (listed.setIfInBounds i true) := by
  intro j o ho hj e he hb
  apply getD_set_true
  rcases getD_set_cases hj with rfl | h
  · obtain ⟨_, o', ho', hall⟩ := mem_ready.1 hi
    rw [ho] at ho'
    cases ho'
    exact hall e he hb
  · exact hc j o ho h e he hb
/-- k waits for i, if by way of others. -/
def waitsB (md : Region.Mode) (ops : Array Oper) (i : Nat) : Nat → Nat → Bool
  | 0, _ => false
  | f + 1, k => ((ops[k]?).map (·.after.any fun e => Region.binds md e && (e.on == i || waitsB md ops i f e.on))).getD false
theorem waits_listed {listed : Array Bool} {i : Nat} (hc : closedX md ops listed) : ∀ (f k : Nat) (o : Oper), ops[k]? = some o → (∀ e ∈ o.after, Region.binds md e = true → listed.getD e.on false = true) → waitsB md ops i f k = true → listed.getD i false = true
  | 0, _, _, _, _, h => by simp [waitsB] at h
  | f + 1, k, o, ho, hall, h => by
    simp only [waitsB, ho, Option.map_some, Option.getD_some] at h
    obtain ⟨e, he, hb⟩ := Array.any_eq_true'.1 h
    simp only [Bool.and_eq_true, Bool.or_eq_true, beq_iff_eq] at hb
    rcases hb.2 with h2 | h2
    · rw [← h2]
      exact hall e he hb.1
    · have hl := hall e he hb.1
      cases hoe : ops[e.on]? with
      | none => cases f <;> simp [waitsB, hoe] at h2
      | some o2 => exact waits_listed hc f e.on o2 hoe (fun e2 he2 hb2 => hc e.on o2 hoe hl e2 he2 hb2) h2
theorem not_ready {listed : Array Bool} {i k : Nat} (hc : closedX md ops listed) (hi : i ∈ Region.ready md ops listed) (hw : waitsB md ops i ops.size k = true) : k ∉ Region.ready md ops listed := by
  intro hk
  obtain ⟨_, o, ho, hall⟩ := mem_ready.1 hk
  have h := waits_listed hc ops.size k o ho hall hw
  have h0 := (mem_ready.1 hi).1
  rcases Nat.lt_or_ge i listed.size with h' | h'
  · simp [h'] at h h0
    rw [h0] at h
    cases h
  · simp [Array.getElem?_eq_none h'] at h

theorem wpAnyX_first {i : Nat} {oi : Oper} {v : Value} (hi : ops[i]? = some oi) (hsel : ∀ (j : Nat) (o : Oper) cs b, ops[j]? = some o → o.op ≠ .select cs b)
    (hQ : ∀ c a w, Q (.panic c) (a.put oi.dst v) w → Q (.panic c) a w) (hX : ∀ k ∈ X, waitsB md ops i ops.size k = true) :
    ∀ (fuel : Nat) (listed : Array Bool) (a : Act) (w : World), closedX md ops listed →
      (∀ j oj, ops[j]? = some oj → j ≠ i → listed.getD j true = false → (∀ e ∈ oj.after, Region.binds md e = true → e.on ≠ i) → oi.apart ops oj = true) →
      i ∈ Region.ready md ops listed → YieldsIf P ops S oi v a → S w →
      wpAnyX P md ops Q S X fuel (listed.setIfInBounds i true) (a.put oi.dst v) w → wpAnyX P md ops Q S X (fuel + 1) listed a w := by
  intro fuel
  induction fuel with
  | zero =>
    intro listed a w hc _ hr hy hS H
    refine ⟨fun h => (by rw [h] at hr; cases hr), fun j hj => ?_⟩
    by_cases hji : j = i
    · subst hji; exact hy.wpOp hi hS ⟨fun _ => hS, H⟩
    · have := ready_mono hj hji
      rw [H.1] at this
      cases this
  | succ fuel ih =>
    intro listed a w hc hfree hr hy hS H
    refine ⟨fun h => (by rw [h] at hr; cases hr), fun j hj => ?_⟩
    by_cases hji : j = i
    · subst hji; exact hy.wpOp hi hS ⟨fun _ => hS, H⟩
    · have h1 := H.2 j (ready_mono hj hji)
      have hjX : j ∉ X := fun hjx => not_ready hc hr (hX j hjx) hj
      obtain ⟨hjun, oj, hoj, hall⟩ := mem_ready.1 hj
      have hnot : ∀ e ∈ oj.after, Region.binds md e = true → e.on ≠ i := fun e he hb heq => by
        have h1 := hall e he hb
        have h0 := (mem_ready.1 hr).1
        rw [heq] at h1
        rcases Nat.lt_or_ge i listed.size with h' | h'
        · simp [h'] at h0 h1; rw [h0] at h1; cases h1
        · simp [Array.getElem?_eq_none h'] at h1
      have h2 := wpOp_putIf hoj (hfree j oj hoj hji hjun hnot) (fun cs b => hsel i oi cs b hi) (fun cs b => hsel j oj cs b hoj) hQ hy h1
      have hfree' : ∀ k ok, ops[k]? = some ok → k ≠ i → (listed.setIfInBounds j true).getD k true = false →
          (∀ e ∈ ok.after, Region.binds md e = true → e.on ≠ i) → oi.apart ops ok = true := fun k ok hk hki hun hno => by
        refine hfree k ok hk hki ?_ hno
        by_cases hjk : j = k
        · subst hjk; exact hjun
        · rw [getD_set_ne true hjk] at hun; exact hun
      refine wpOp_mono (fun a' w' h3 => ⟨h3.2.1, ih (listed.setIfInBounds j true) a' w' (closedX_step hc hj) hfree' (ready_mono hr (Ne.symm hji)) h3.1 (h3.2.1 hjX) ?_⟩) h2
      rw [Array.setIfInBounds_comm _ _ hji]
      exact h3.2.2

theorem wpAnyX_take {i : Nat} {oi : Oper} {v : Value} {fuel : Nat} {listed : Array Bool} {a : Act} {w : World} (hi : ops[i]? = some oi)
    (hs : Region.noSelect ops = true) (hf : Region.free md ops listed i = true) (hr : (Region.ready md ops listed).contains i = true) (hc : closedB md ops listed = true) (hX : (X.all fun k => waitsB md ops i ops.size k) = true)
    (hQ : ∀ c a w, Q (.panic c) (a.put oi.dst v) w → Q (.panic c) a w) (hy : YieldsIf P ops S oi v a) (hS : S w)
    (h : wpAnyX P md ops Q S X fuel (listed.setIfInBounds i true) (a.put oi.dst v) w) : wpAnyX P md ops Q S X (fuel + 1) listed a w :=
  wpAnyX_first hi (Region.noSelect_spec hs) hQ (fun k hk => List.all_eq_true.1 hX k hk) fuel listed a w (closedB_spec hc) (Region.free_spec hi hf) (by simpa using hr) hy hS h
/-- The one that may come up comes up; behind it there holds S. -/
theorem wpAnyX_one {i : Nat} {o : Oper} {fuel : Nat} {listed : Array Bool} {a : Act} {w : World} (hr : Region.ready md ops listed = [i]) (ho : ops[i]? = some o)
    (h : ∀ K' : Act → World → Prop, Shut (∀ a w, S w → wpAnyX P md ops Q S X fuel (listed.setIfInBounds i true) a w → K' a w) → if Region.wanted o (yielded ops a.tmps) = true then Oper.wp P o a w K' Q else K' (a.put o.dst undef) w) : wpAnyX P md ops Q S X (fuel + 1) listed a w := by
  refine ⟨fun h0 => (by rw [hr] at h0; cases h0), fun j hj => ?_⟩
  rw [hr] at hj
  obtain rfl : j = i := by simpa using hj
  exact wpOp_step ho fun K' hK => h K' (fun a w hS hW => hK a w ⟨fun _ => hS, hW⟩)
/-- One of two that may come up comes up; behind it there holds S. -/
theorem wpAnyX_two {i j : Nat} {oi oj : Oper} {fuel : Nat} {listed : Array Bool} {a : Act} {w : World} (hr : Region.ready md ops listed = [i, j]) (hoi : ops[i]? = some oi) (hoj : ops[j]? = some oj)
    (h1 : ∀ K' : Act → World → Prop, Shut (∀ a w, S w → wpAnyX P md ops Q S X fuel (listed.setIfInBounds i true) a w → K' a w) → if Region.wanted oi (yielded ops a.tmps) = true then Oper.wp P oi a w K' Q else K' (a.put oi.dst undef) w)
    (h2 : ∀ K' : Act → World → Prop, Shut (∀ a w, S w → wpAnyX P md ops Q S X fuel (listed.setIfInBounds j true) a w → K' a w) → if Region.wanted oj (yielded ops a.tmps) = true then Oper.wp P oj a w K' Q else K' (a.put oj.dst undef) w) : wpAnyX P md ops Q S X (fuel + 1) listed a w := by
  refine ⟨fun h0 => (by rw [hr] at h0; cases h0), fun k hk => ?_⟩
  rw [hr] at hk
  rcases List.mem_cons.1 hk with rfl | hk
  · exact wpOp_step hoi fun K' hK => h1 K' (fun a w hS hW => hK a w ⟨fun _ => hS, hW⟩)
  · obtain rfl : k = j := by simpa using hk
    exact wpOp_step hoj fun K' hK => h2 K' (fun a w hS hW => hK a w ⟨fun _ => hS, hW⟩)
/-- .. one of X. -/
theorem wpAnyX_last {i : Nat} {o : Oper} {fuel : Nat} {listed : Array Bool} {a : Act} {w : World} (hr : Region.ready md ops listed = [i]) (ho : ops[i]? = some o) (hX : X.contains i = true)
    (h : ∀ K' : Act → World → Prop, Shut (∀ a w, wpAnyX P md ops Q S X fuel (listed.setIfInBounds i true) a w → K' a w) → if Region.wanted o (yielded ops a.tmps) = true then Oper.wp P o a w K' Q else K' (a.put o.dst undef) w) : wpAnyX P md ops Q S X (fuel + 1) listed a w := by
  refine ⟨fun h0 => (by rw [hr] at h0; cases h0), fun j hj => ?_⟩
  rw [hr] at hj
  obtain rfl : j = i := by simpa using hj
  exact wpOp_step ho fun K' hK => h K' (fun a w hW => hK a w ⟨fun hn => absurd (by simpa using hX) hn, hW⟩)
theorem wpAnyX_done {listed : Array Bool} {a : Act} {w : World} (hr : Region.ready md ops listed = []) (h : Q .normal a w) : ∀ fuel, wpAnyX P md ops Q S X fuel listed a w
  | 0 => ⟨hr, h⟩
  | _ + 1 => ⟨fun _ => h, by rw [hr]; simp⟩
theorem wp_region_X {id : Nat} {a : Act} {w : World} (S : World → Prop) (X : List Nat) (hm : P.follows .mixedOrders = true)
    (h : wpAnyX P .any ops Q S X ops.size (Array.replicate ops.size false) a w.drew) : (Code.region id ops true).wp P Q a w := wp_region_any hm (wpAny_of_X _ _ _ _ h)
end
end Go.Proofs.Ytdeaniigimmoaaa
