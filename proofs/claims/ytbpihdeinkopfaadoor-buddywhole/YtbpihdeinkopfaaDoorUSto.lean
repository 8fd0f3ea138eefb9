/- A store as it lies; where a frame is found in it. -/
import Derived.Test.YtbpihdeinkopfaaDoorURow
namespace Go.Proofs.YtbpihdeinkopfaaDoor
open Go.RowKit

/-- A store at block p; F: its own blocks. -/
structure Sto (F : Nat → Prop) (w : World) (p n : Nat) (v : Value) (L : List Bk) : Prop where
  laid : Laid w p 55 #[.int .i64 n, v]
  row : Row rB 0 w v L
  fp : F p
  fv : ∀ g, v.ownBlock = some g → F g
  lt : ∀ c, F c → c < w.heap.size
/-- What its blocks are. -/
structure Okl (n : Nat) (L : List Bk) : Prop where
  good : Good L
  top : ∀ b ∈ L, bend b ≤ n
  max : n ≤ 512
section
variable {F : Nat → Prop} {w w' : World} {p n : Nat} {v : Value} {L : List Bk}
theorem Sto.keeps {s : Nat → Prop} (h : Sto F w p n v L) (hk : Keeps w w' s) (hs : ∀ c, F c → ¬ s c) : Sto F w' p n v L :=
  ⟨(hk.block p (h.lt p h.fp) (hs p h.fp)).trans h.laid, hk.row h.row fun g hg => hs g (h.fv g hg), h.fp, h.fv, fun c hc => Nat.lt_of_lt_of_le (h.lt c hc) hk.size⟩
theorem Sto.below (h : Sto F w p n v L) (hb : Below w.heap.size w w') : Sto F w' p n v L := h.keeps (Keeps.of_below hb (fun _ => False)) fun _ _ e => e
theorem Okl.len (h : Okl n L) : L.length ≤ 512 := by
  have := sorted_len L 0 n h.good.sorted fun b hb => ⟨Nat.zero_le _, h.top b hb⟩
  have := h.max
  omega
theorem Okl.blk (h : Okl n L) {b : Bk} (hb : b ∈ L) : b.1 ≤ 512 ∧ b.2 ≤ 5 ∧ bend b ≤ 512 := by
  have := h.top b hb
  have := bend_pos b
  have := h.max
  have := (h.good.al b hb).1
  omega
theorem Okl.get (_h : Okl n L) {i : Nat} (hi : i < L.length) : L.getD i (0, 0) ∈ L := by
  rw [List.getD_eq_getElem?_getD, List.getElem?_eq_getElem hi]
  exact List.getElem_mem hi
end

set_option maxHeartbeats 2000000 in
/-- The function that is handed to sort.Search. -/
theorem ends1_any {F : Nat → Prop} {w : World} {p n : Nat} {v : Value} {L : List Bk} (hs : Sto F w p n v L) (ho : Okl n L) (bs bf : Nat) (z : Int) (i : Nat) (hi : i < L.length)
    (h1 : w.cell? ⟨bs, 0, none⟩ = some (.pointer (some ⟨p, 0, none⟩))) (h2 : w.cell? ⟨bf, 0, none⟩ = some (.int .i64 z)) :
    Calls Tryd.prog 41 #[.int .i64 i, .pointer (some ⟨bs, 0, none⟩), .pointer (some ⟨bf, 0, none⟩)] w fun e w' => e = .returned (.bool (decide (z < (bend (L.getD i (0, 0)) : Nat)))) ∧ Below w.heap.size w w' := by
  obtain ⟨ao, c, rfl⟩ := hs.row.form
  obtain ⟨g, rfl, _, _, hg, hlc, hcm, hat⟩ := hs.row.at hi
  obtain ⟨c0, c1⟩ := rB.at hat
  simp only [show rB.n = 2 from rfl, show rB.zero = (0, 0) from rfl] at c0 c1
  have hc := hs.laid.cell 1
  simp at hc
  have hb := ho.blk (ho.get hi)
  obtain ⟨b, hbe⟩ : ∃ b, b = L.getD i (0, 0) := ⟨_, rfl⟩
  rw [← hbe] at c0 c1 hb ⊢
  have E := fun w => end_any b w (by omega) (by omega)
  unfold bval at E
  have l1 := World.block_lt_of_cell? w _ h1
  have l2 := World.block_lt_of_cell? w _ h2
  have l3 := hs.laid.lt
  have hil : (i : Int) < L.length := by omega
  clear hat hbe hb hcm hlc hs ho
  go_enter Tryd.func41, Tryd.ntmps41
  go_wp2
  go_region_held3 (fun w' => w'.cell? ⟨bs, 0, none⟩ = some (.pointer (some ⟨p, 0, none⟩)) ∧ w'.cell? ⟨bf, 0, none⟩ = some (.int .i64 z) ∧ w'.cell? ⟨p, 1, none⟩ = some (.slice (some ⟨g, 0, none⟩) L.length c) ∧ w'.cell? ⟨g, i * 2, none⟩ = some (.int .i64 b.1) ∧ w'.cell? ⟨g, i * 2 + 1, none⟩ = some (.int .i64 b.2)) (go_keep) (first | (go_at_call 33; refine (E _).mono ?_; rintro e w2 ⟨rfl, hb2⟩; have hc2 : ∀ q o, q < w.heap.size → w2.cell? ⟨q, o, none⟩ = w.cell? ⟨q, o, none⟩ := fun q o hq => (bcell hb2).1 _ _ hq))
  go_wp2
  go_ret
  exact ⟨rfl, (Below.refl _ _).drew.trans hb2⟩
end Go.Proofs.YtbpihdeinkopfaaDoor
