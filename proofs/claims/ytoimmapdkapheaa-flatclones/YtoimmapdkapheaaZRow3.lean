/- Rows of records: copied within and between rows, cleared, grown by zeros. No word of the program. -/
import Derived.Test.YtoimmapdkapheaaZRow2
import Derived.Lib.Overlaps
import Derived.Lib.AppendZerosOnto
import Derived.Laws.NewBlocks
namespace Go.Proofs.Ytoimmapdkapheaa
set_option maxRecDepth 4000
open Go.RowKit

section
variable {P : Program} {α : Type} {R : Rec α} {s : TypeId}

/-- 'copy(d, x)' of n records, whatever overlaps. -/
theorem run_copyR (k : Kin P R s) (w : World) (ty : TypeId) (b o dLen dCap : Nat) (a : Addr) (sLen sCap n : Nat) (cs : List Value) (hn : n = Nat.min sLen dLen) (hl : cs.length = n * R.n)
    (hsrc : ∀ j v, cs[j]? = some v → w.cell? (a.add j) = some v) (hc : ∀ j, j < cs.length → (w.cell? ⟨b, o + j, none⟩).isSome = true) (hf : ∀ j, j < cs.length → w.frozen? ⟨b, o + j, none⟩ = false) (h1 : ∀ v ∈ cs, v.oneCell' = true) :
    (Builtin.copy_ #[s, s] ty #[.slice (some ⟨b, o, none⟩) dLen dCap, .slice (some a) sLen sCap]).run P w = .ok (goInt n) (w.setCells b o cs) := by
  obtain ⟨i, z, hi, _, hs, _⟩ := k.inf
  have hld := run_loadCells_list (P := P) w a cs hsrc
  rw [hl] at hld
  have hst := run_storeCells_cells (P := P) b o cs 0 w (by simpa using hc) (by simpa using hf) h1
  simp [Builtin.copy_, run_underlying k.und, Builtin.lenOf, Builtin.firstCells, sizeOf, typeInfo, hi, hs, ← hn, hld, hst]
theorem run_copy0 (k : Kin P R s) (w : World) (ty : TypeId) (a : Addr) (dLen dCap : Nat) : (Builtin.copy_ #[s, s] ty #[.slice (some a) dLen dCap, .slice none 0 0]).run P w = .ok (goInt 0) w := by
  obtain ⟨i, z, hi, _⟩ := k.inf
  exact run_copy_nil P w s s ty R.t a dLen dCap k.und (by rw [hi]; rfl)
/-- .. at 'Oper.wp', where its run is known. -/
theorem wp_copyR (w : World) {o : Oper} {a : Act} {K : Act → World → Prop} {Q : Exit → Act → World → Prop} (d x : Operand) (ho : o.op = .call { callee := .builtin .copy, args := #[d, x], argTypes := #[s, s] }) (v u : Value) (hd : a.eval d = v) (hx : a.eval x = u) {v' : Value} {w' : World}
    (hr : ∀ ty, (Builtin.copy_ #[s, s] ty #[v, u]).run P w = .ok v' w') (h : K (a.put o.dst v') w') : Oper.wp P o a w K Q := by
  unfold Oper.wp execOp
  simp only [ho, resolve, invoke, builtin, Sem.run_bind, Sem.run_pure, Result.andThen_ok, List.map_toArray, List.map_cons, List.map_nil, hd, hx, hr]
  exact h
theorem list_copyR (w : World) {ops : Array Oper} {rest : List Oper} {o : Oper} {a : Act} {Q : Exit → Act → World → Prop} (hg : o.guard = none) (d x : Operand) (ho : o.op = .call { callee := .builtin .copy, args := #[d, x], argTypes := #[s, s] }) (v u : Value) (hd : a.eval d = v) (hx : a.eval x = u) {v' : Value} {w' : World}
    (hr : ∀ ty, (Builtin.copy_ #[s, s] ty #[v, u]).run P w = .ok v' w') (h : wpList P ops Q rest (a.put o.dst v') w') : wpList P ops Q (o :: rest) a w :=
  wpList_plain hg fun _ hK => wp_copyR w d x ho v u hd hx hr (hK _ _ h)
theorem step_copyR {ops : Array Oper} {o : Oper} {a : Act} {w : World} {K : Act → World → Prop} {Q : Exit → Act → World → Prop} {E : Prop} (hg : o.guard = none) (d x : Operand) (ho : o.op = .call { callee := .builtin .copy, args := #[d, x], argTypes := #[s, s] }) (v u : Value) (hd : a.eval d = v) (hx : a.eval x = u) {v' : Value} {w' : World}
    (hr : ∀ ty, (Builtin.copy_ #[s, s] ty #[v, u]).run P w = .ok v' w') (hK : K (a.put o.dst v') w') : if Region.wanted o (yielded ops a.tmps) = true then Oper.wp P o a w K Q else E := by
  rw [if_pos (show Region.wanted o (yielded ops a.tmps) = true by simp [Region.wanted, hg])]
  exact wp_copyR w d x ho v u hd hx hr hK

/-- 'clear(s)' of n records: their cells are written, with whatever it be. -/
theorem run_clearR (k : Kin P R s) (hone : ∀ i z, P.info? R.t = some i → i.zero = some z → ∀ u ∈ z.cells, u.oneCell' = true) (w : World) (b o n c : Nat) (hc : ∀ j, j < n * R.n → (w.cell? ⟨b, o + j, none⟩).isSome = true) (hf : ∀ j, w.frozen? ⟨b, j, none⟩ = false) :
    ∃ vs : List Value, vs.length = n * R.n ∧ ∀ ty, (Builtin.clear_ #[s] ty #[.slice (some ⟨b, o, none⟩) n c]).run P w = .ok (.tuple #[]) (w.setCells b o vs) := by
  obtain ⟨i, z, hi, hz0, hz1, hz2, hzs⟩ := k.inf
  cases n with
  | zero =>
    refine ⟨[], by simp, fun ty => ?_⟩
    simp [Builtin.clear_, run_underlying k.und, World.setCells]
  | succ m =>
    have hl : (Builtin.zeroCells z.cells (m + 1)).toList.length = (m + 1) * R.n := by simp [Builtin.zeroCells, hzs]
    have h1 : ∀ u ∈ (Builtin.zeroCells z.cells (m + 1)).toList, u.oneCell' = true := by
      intro u hu
      simp only [Builtin.zeroCells, Array.toList_map, List.mem_map] at hu
      obtain ⟨j, _, rfl⟩ := hu
      have hj : j % z.cells.size < z.cells.size := Nat.mod_lt _ (by rw [hzs]; exact R.npos)
      apply hone i z hi hz0
      rw [Array.getElem!_eq_getD, Array.getD_eq_getD_getElem?, Array.getElem?_eq_getElem hj, Option.getD_some]
      exact Array.getElem_mem hj
    have hst := run_storeCells_cells (P := P) b o (Builtin.zeroCells z.cells (m + 1)).toList 0 w (by rw [hl]; simpa using hc) (by intro j _; exact hf _) h1
    simp only [Nat.add_zero] at hst
    refine ⟨_, hl, fun ty => ?_⟩
    simp [Builtin.clear_, run_underlying k.und, zeroValue, typeInfo, hi, hz0, hst]

/-- 'append(s[:i], make(S, k)...)' of a row with no room: a new row of what stood there, and whatever it be behind. -/
theorem run_zerosR (k : Kin P R s) (tn : TypeId) (hn : P.underlying tn = some (.int .i64)) (w : World) (g i c m : Nat) (l : List α) (hl : l.length = i) (hm : 0 < m) (hc : c < i + m) (hb : (i + m) * R.bytes ≤ 140737488355328) (hlen : i + m ≤ maxLen)
    (hcell : ∀ (j : Nat) (u : Value), (R.all l)[j]? = some u → w.cell? ⟨g, j, none⟩ = some u) :
    ∃ (G : Nat) (cur : Array Value), i + m ≤ G ∧ G ≤ maxLen ∧ cur.size = G * R.n ∧ (∀ (j : Nat) (u : Value), (R.all l)[j]? = some u → cur[j]? = some u) ∧
      ∀ ty, (Builtin.append_ #[s, tn] ty #[.slice (some ⟨g, 0, none⟩) i c, .int .i64 m]).run P w = .ok (.slice (some ⟨w.heap.size, 0, none⟩) (i + m) G) (w.drew.alloc (.cells cur R.t (0, 0))) := by
  obtain ⟨i0, z, hi, hz0, hz1, hz2, hzs⟩ := k.inf
  have hold : (Builtin.firstCells i0.size i (.slice (some ⟨g, 0, none⟩) i c)).run P w.drew = .ok (R.all l).toArray w.drew :=
    run_firstCells_some w.drew i0.size i ⟨g, 0, none⟩ i c (R.all l) (by rw [R.all_len, hl, hz1]) (fun j v hj => by
      rw [Addr.add_lit, Nat.zero_add]
      exact hcell j v hj)
  refine ⟨grownCap w (i + m) c R.t, (R.all l).toArray ++ Builtin.zeroCells z.cells m ++ Builtin.zeroCells z.cells (grownCap w (i + m) c R.t - (i + m)), grownCap_ge w _ _ _, grownCap_le_maxLen w (i + m) c R.t hlen, ?_, ?_, fun ty => ?_⟩
  · have := grownCap_ge w (i + m) c R.t
    simp only [Array.size_append, List.size_toArray, R.all_len, hl, Builtin.zeroCells, Array.size_map, Array.size_range, hzs]
    rw [← Nat.add_mul, ← Nat.add_mul]
    congr 1
    omega
  · intro j u hj
    have hlt := (List.getElem?_eq_some_iff.1 hj).1
    rw [Array.append_assoc, Array.getElem?_append_left (by simpa using hlt)]
    simpa using hj
  · have hb' : m * R.bytes ≤ 281474976710656 := by
      have : m * R.bytes ≤ (i + m) * R.bytes := Nat.mul_le_mul_right _ (by omega)
      omega
    exact Lib.run_append_grow_zeros w s tn ty R.t i0 z .i64 .i64 k.und hn hi hz0 (some ⟨g, 0, none⟩) i c (R.all l) hold m hm (by rw [hz1]; exact R.npos) hc (by unfold maxLen at hlen; omega) (by rw [hz2]; exact hb') (by rw [hz2]; exact growslice_fits hc hb)
end

/-- Records written into a block from the i-th place on. -/
theorem wrs_at {α : Type} (R : Rec α) (cur : Array Value) (i c : Nat) (M : List α) (hs : cur.size = c * R.n) (hi : i + M.length ≤ c) (k j : Nat) (hj : j < R.n) :
    (wrs cur (i * R.n) (R.all M))[k * R.n + j]? = if i ≤ k ∧ k < i + M.length then (R.cells (M.getD (k - i) R.zero))[j]? else cur[k * R.n + j]? := by
  have hall := R.all_len M
  have hfit : (i + M.length) * R.n ≤ c * R.n := Nat.mul_le_mul_right _ hi
  rw [Nat.add_mul] at hfit
  by_cases h : i ≤ k ∧ k < i + M.length
  · rw [if_pos h]
    obtain ⟨d, rfl⟩ : ∃ d, k = i + d := ⟨k - i, by omega⟩
    have hd : (d + 1) * R.n ≤ M.length * R.n := Nat.mul_le_mul_right _ (by omega)
    rw [Nat.add_mul] at hd
    rw [Nat.add_mul, Nat.add_assoc, wrs_in (R.all M) cur (i * R.n) (d * R.n + j) (by rw [hall]; omega) (by rw [hall, hs]; omega), R.all_at M d j (by omega) hj, show i + d - i = d by omega]
  · rw [if_neg h]
    apply wrs_out
    rw [hall]
    rcases Nat.lt_or_ge k i with c1 | c1
    · left
      have : (k + 1) * R.n ≤ i * R.n := Nat.mul_le_mul_right _ c1
      rw [Nat.add_mul] at this
      omega
    · right
      have : (i + M.length) * R.n ≤ k * R.n := Nat.mul_le_mul_right _ (by omega)
      rw [Nat.add_mul] at this
      omega
end Go.Proofs.Ytoimmapdkapheaa
