/- slices.Delete, IndexFunc, DeleteFunc over entries. -/
import Derived.Test.YtpkagigjcnjlpaaEBuf
import Derived.Deep.RegionLaw
import Derived.Deep.LoopGhost
namespace Go.Proofs.Ytpkagigjcnjlpaa
open Go.RowKit

theorem info_ent : (Try.prog.info? 26).map (fun i => (i.zero, i.size, i.bytes)) = some (some (.agg #[.int .i64 0, .int .i64 0, .int .i64 0, .int .i64 0, .bool false, .bool false]), 6, 40) := by kernel_rfl

/-- clear(s) of n entries: all cells are written with zeros. -/
theorem run_clear (w : World) (ty : TypeId) (b o n c : Nat) (hn : 0 < n) (hc : ∀ j, j < n * 6 → (w.cell? ⟨b, o + j, none⟩).isSome = true) (hf : ∀ j, w.frozen? ⟨b, j, none⟩ = false) :
    ∃ vs : List Value, vs.length = n * 6 ∧ (Builtin.clear_ #[39] ty #[.slice (some ⟨b, o, none⟩) n c]).run Try.prog w = .ok (.tuple #[]) (w.setCells b o vs) := by
  have hl : (Builtin.zeroCells (ecells Ent.zero) n).toList.length = n * 6 := by
    simp [Builtin.zeroCells]
    rfl
  have hone : ∀ u ∈ (Builtin.zeroCells (ecells Ent.zero) n).toList, u.oneCell' = true := by
    intro u hu
    simp only [Builtin.zeroCells, Array.toList_map, List.mem_map] at hu
    obtain ⟨i, _, rfl⟩ := hu
    have h6 : i % (ecells Ent.zero).size < 6 := Nat.mod_lt _ (by decide)
    generalize i % (ecells Ent.zero).size = j at h6
    have : j = 0 ∨ j = 1 ∨ j = 2 ∨ j = 3 ∨ j = 4 ∨ j = 5 := by omega
    rcases this with rfl | rfl | rfl | rfl | rfl | rfl <;> rfl
  have hst := run_storeCells_cells (P := Try.prog) b o (Builtin.zeroCells (ecells Ent.zero) n).toList 0 w (by rw [hl]; simpa using hc) (by intro j _; exact hf _) hone
  simp only [Nat.add_zero] at hst
  refine ⟨_, hl, ?_⟩
  obtain ⟨m, rfl⟩ : ∃ m, n = m + 1 := ⟨n - 1, by omega⟩
  simp [Builtin.clear_, run_underlying Try.underlying39]
  change ((Sem.run Try.prog (storeCells ⟨b, o, none⟩ (Builtin.zeroCells (ecells Ent.zero) (m + 1)).toList) w).andThen _) = _
  rw [hst]
  rfl

/-- The list without its i-th. -/
def without (l : List Ent) (i : Nat) : List Ent := l.take i ++ l.drop (i + 1)
theorem without_len (l : List Ent) (i : Nat) (h : i < l.length) : (without l i).length = l.length - 1 := by
  simp [without]
  omega
theorem without_lt (l : List Ent) (i k : Nat) (hi : i < l.length) (hk : k < i) : (without l i).getD k Ent.zero = l.getD k Ent.zero := by
  simp only [without, List.getD_eq_getElem?_getD, List.getElem?_append, List.length_take]
  rw [if_pos (by omega), List.getElem?_take_of_lt hk]
theorem without_ge (l : List Ent) (i k : Nat) (hi : i < l.length) (hk : i ≤ k) : (without l i).getD k Ent.zero = l.getD (k + 1) Ent.zero := by
  simp only [without, List.getD_eq_getElem?_getD, List.getElem?_append, List.length_take]
  rw [if_neg (by omega), List.getElem?_drop]
  congr 2
  omega

def DelPost (w : World) (B g c : Nat) (l' : List Ent) (e : Ending) (w' : World) : Prop := e = .returned (.slice (some ⟨g, 0, none⟩) l'.length c) ∧ Own B w' (.slice (some ⟨g, 0, none⟩) l'.length c) l' ∧ w.grownBy w' (some g)

theorem head_del {cur : Array Value} {l : List Ent} {c i : Nat} (h : Head cur l) (hi : i < l.length) (hs : cur.size = c * 6) (hc : l.length ≤ c) (vs : List Value) (o : Nat) (ho : (l.length - 1) * 6 ≤ o) : Head (wrt (wrt cur (i * 6) (ecs (l.drop (i + 1)))) o vs) (without l i) := by
  intro k hk t ht
  rw [without_len l i hi] at hk
  rw [wrt_out _ _ _ _ (Or.inl (by omega))]
  have hdl : (ecs (l.drop (i + 1))).length = (l.length - (i + 1)) * 6 := by rw [ecs_len, List.length_drop]
  by_cases hki : k < i
  · rw [wrt_out _ _ _ _ (Or.inl (by omega)), h k (by omega) t ht]
    rw [without_lt l i k hi hki]
  · have e : k * 6 + t = i * 6 + ((k - i) * 6 + t) := by omega
    rw [e, wrt_in _ _ _ _ (by rw [hdl]; omega) (by rw [hdl, hs]; omega), ecs_at _ _ _ (by simp; omega) ht]
    rw [without_ge l i k hi (by omega)]
    simp only [List.getD_eq_getElem?_getD, List.getElem?_drop]
    rw [show i + 1 + (k - i) = k + 1 by omega]

set_option maxRecDepth 100000 in
set_option maxHeartbeats 4000000 in
theorem delete_any {B : Nat} {w : World} {g c : Nat} {l : List Ent} (hown : Own B w (.slice (some ⟨g, 0, none⟩) l.length c) l) (i : Nat) (hi : i < l.length) (hc63 : l.length ≤ 64) :
    Calls Try.prog 34 #[.slice (some ⟨g, 0, none⟩) l.length c, .int .i64 i, .int .i64 ((i + 1 : Nat) : Int)] w (DelPost w B g c (without l i)) := by
  obtain ⟨i0, hi0, hz0, hz1, hz2⟩ := info_parts info_ent
  rcases hown.cases' with ⟨h, _⟩ | ⟨g', c', cur, h, hB, hg0, hg, hlc, hcm, hs, hh⟩
  · cases h
  obtain ⟨rfl, rfl⟩ : g = g' ∧ c = c' := by cases h; exact ⟨rfl, rfl⟩
  clear h
  have hcm' : c ≤ 9223372036854775807 := by unfold maxLen at hcm; omega
  obtain ⟨news, hnews⟩ : ∃ news, news = ecs (l.drop (i + 1)) := ⟨_, rfl⟩
  have hlen : news.length = (l.length - (i + 1)) * 6 := by rw [hnews, ecs_len, List.length_drop]
  have hget : ∀ t, t < (l.length - (i + 1)) * 6 → news[t]? = cur[(i + 1) * 6 + t]? := by
    intro t ht
    have e : t = t / 6 * 6 + t % 6 := by omega
    rw [hnews, e, ecs_at _ _ _ (by simp; omega) (by omega), show (i + 1) * 6 + (t / 6 * 6 + t % 6) = (i + 1 + t / 6) * 6 + t % 6 by omega, hh _ (by omega) _ (by omega)]
    congr 2
    simp
  obtain ⟨A, hA, hsrc⟩ : ∃ A : Addr, (if c = i + 1 then some (⟨g, 0, none⟩ : Addr) else some ⟨g, (i + 1) * 6, none⟩) = some A ∧ Hid (∀ t u, news[t]? = some u → w.drew.cell? (A.add t) = some u) := by
    by_cases h : c = i + 1
    · refine ⟨⟨g, 0, none⟩, by simp [h], fun t u hu => ?_⟩
      have h0 : news.length = 0 := by rw [hlen]; omega
      rw [List.length_eq_zero_iff.1 h0] at hu
      simp at hu
    · refine ⟨⟨g, (i + 1) * 6, none⟩, by simp [h], fun t u hu => ?_⟩
      have ht : t < (l.length - (i + 1)) * 6 := by
        have := (List.getElem?_eq_some_iff.1 hu).1
        rwa [hlen] at this
      rw [hget t ht] at hu
      rw [Addr.add_lit]
      exact (cell_of_row w g _ cur _ _ hg).trans hu
  have s1 : Hid (news.length = (l.length - (i + 1)) * 6) := hlen
  have s2 : Hid (∀ u ∈ news, u.oneCell' = true) := by rw [hnews]; exact ecs_one _
  have s3 : Hid (∀ t, t < news.length → (w.drew.cell? ⟨g, 0 + i * 6 + t, none⟩).isSome = true ∧ w.drew.frozen? ⟨g, 0 + i * 6 + t, none⟩ = false) := by
    intro t ht
    rw [hlen] at ht
    refine ⟨?_, frozen_of_row w g _ cur _ hg⟩
    show (w.cell? _).isSome = true
    rw [cell_of_row w g _ cur _ _ hg, Array.getElem?_eq_getElem (by omega)]
    rfl
  obtain ⟨W1, hW1⟩ : ∃ W1, W1 = w.drew.setCells g (0 + i * 6) news := ⟨_, rfl⟩
  have hg1 : W1.heap[g]? = some (.cells (wrt cur (i * 6) (ecs (l.drop (i + 1)))) 26 (0, 0)) := by
    rw [hW1, ← hnews, show 0 + i * 6 = i * 6 by omega]
    exact heap_setCells _ _ g _ cur _ hg
  have hgr1 : w.grownBy W1 (some g) := by
    rw [hW1]
    have h := grown_setCells news w.drew g (0 + i * 6)
    exact ⟨h.os, h.tape, h.output, h.size, h.block⟩
  obtain ⟨vs, hvl, hcl⟩ := run_clear W1 0 g ((i + (l.length - (i + 1))) * 6) (l.length - (i + (l.length - (i + 1)))) (c - (i + (l.length - (i + 1)))) (by omega) (fun j hj => by rw [cell_of_row W1 g _ _ _ _ hg1, Array.getElem?_eq_getElem (by rw [wrt_size]; omega)]; rfl) (fun j => frozen_of_row W1 g j _ _ hg1)
  have X : Hid (DelPost w B g c (without l i) (.returned (.slice (some ⟨g, 0, none⟩) (without l i).length c)) (W1.setCells g ((i + (l.length - (i + 1))) * 6) vs)) := by
    refine ⟨rfl, ?_, grown_trans hgr1 (grown_setCells _ _ _ _)⟩
    refine Own.mk' hB (heap_setCells _ _ g _ _ _ hg1) (by rw [without_len l i hi]; omega) hcm (by rw [wrt_size, wrt_size]; exact hs) ?_
    exact head_del hh hi hs hlc vs _ (by omega)
  have hwl : (without l i).length = i + (l.length - (i + 1)) := by rw [without_len l i hi]; omega
  have hW : Hid (W1 = w.drew.setCells g (0 + i * 6) news) := hW1
  clear hW1 hg1 hgr1 hh hg hs hown hget hnews hlen hB hg0 hvl
  have hic : i ≤ c := by omega
  have hjc : i + 1 ≤ c := by omega
  have q1 : (0 : Int) ≤ (i : Int) + 1 ∧ (i : Int) + 1 ≤ (l.length : Int) := by omega
  go_enter Try.func34, Try.ntmps34
  go_wp2_with fail
  go_region_law (refine step_append_room rfl (.tmp 22) (.tmp 25) 39 rfl 26 i0 6 Try.underlying39 hi0 hz1 g 0 i c (by simp [Act.eval, Act.put]) A (l.length - (i + 1)) (c - (i + 1)) news (by simp [Act.eval, Act.put]) s1.out hsrc.out s2.out (by omega) s3.out ?_; rw [← hW.out])
  go_wp2
  go_ret
  have X' := X.out
  rw [← hwl] at X' ⊢
  exact X'
end Go.Proofs.Ytpkagigjcnjlpaa
