/- What (*buddy.Store).carve does; condition: the table of math/bits lies as its text lays it. -/
import Derived.Test.YtbpihdeinkopfaaDoorUTurn
import Derived.Lib.ItoaWalk
namespace Go.Proofs.YtbpihdeinkopfaaDoor
open Go.RowKit

def CarveP (F : Nat → Prop) (w : World) (p n : Nat) (L : List Bk) (e : Ending) (w' : World) : Prop := e = .returned (.tuple #[]) ∧ SP F w p n L w'


set_option maxRecDepth 100000 in
set_option maxHeartbeats 4000000 in
theorem carve_core {F : Nat → Prop} {w : World} {p n : Nat} {v : Value} {L : List Bk} (hs : Sto F w p n v L) (ho : Okl n L) (hT : Tab w) (i : Nat) (hi : i < L.length) (pc b : Bk) (hbe : L.getD i (0, 0) = b) (h1 : b.1 ≤ pc.1) (h2 : bend pc ≤ bend b) (h5 : pc.2 ≤ 5)
    (l1 l2 L' : List Bk) (hl1 : l1 = blkL b.1 pc.1) (hl2 : l2 = blkL (bend pc) (bend b)) (hL' : L' = L.take i ++ ((l1 ++ l2) ++ L.drop (i + 1))) :
    Calls Tryd.prog 29 #[.pointer (some ⟨p, 0, none⟩), .int .i64 i, bval pc] w (CarveP F w p n L') := by
  have hlen := ho.len
  have hbb := ho.blk (ho.get hi)
  rw [hbe] at hbb
  have hpp := bend_pos pc
  have hL1 := (blk_cvr h1 (show pc.1 ≤ 1048576 by omega)).len
  have hL2 := (blk_cvr h2 (show bend b ≤ 1048576 by omega)).len
  rw [← hl1] at hL1
  rw [← hl2] at hL2
  obtain ⟨ao, c, rfl⟩ := hs.row.form
  obtain ⟨g, rfl, _, _, hg, hlc, hcm, hat⟩ := hs.row.at hi
  obtain ⟨c0, c1⟩ := rB.at hat
  simp only [show rB.n = 2 from rfl, show rB.zero = (0, 0) from rfl, hbe] at c0 c1
  obtain ⟨q0, q1, q2, q3⟩ := hs.p0
  have hil : (i : Int) < L.length := by omega
  have hil2 : i < L.length := hi
  have E1 := fun w => end_any pc w (by omega) (by omega)
  have E2 := fun w => end_any b w (by omega) (by omega)
  have K1 := fun w (hT : Tab w) => blocks_any b.1 pc.1 w hT h1 (by omega)
  have K2 := fun w (hT : Tab w) => blocks_any (bend pc) (bend b) w hT h2 (by omega)
  rw [← hl1] at K1
  rw [← hl2] at K2
  have hb1 : l1.length ≤ 512 := by omega
  have hb2 : l2.length ≤ 512 := by omega
  unfold bval at E1 E2 ⊢
  have HW : Hid (Below w.heap.size w (((w.alloc (.cells #[.int .i64 pc.1, .int .i64 pc.2] 48)).alloc (.cells #[.int .i64 b.1, .int .i64 b.2] 48)))) := ((Below.refl _ _).alloc (Nat.le_refl _) _).alloc (by simp) _
  have HS : Hid (Sto F w p n (.slice (some ⟨g, 0, none⟩) L.length c) L) := hs
  have HT : Hid (Tab w) := hT
  have HL : Hid (L' = L.take i ++ ((l1 ++ l2) ++ L.drop (i + 1))) := hL'
  generalize bend pc = ep at *
  generalize bend b = eb at *
  obtain ⟨p1, p2⟩ := pc
  obtain ⟨b1, b2⟩ := b
  simp only at *
  clear hat hcm hs ho hT hbe hl1 hl2 hL1 hL2 hL' hbb hpp
  go_enter Tryd.func29, Tryd.ntmps29
  go_wp2
  go_name_world W hW
  have hm0 : W.cell? ⟨w.heap.size, 0, none⟩ = some (.int .i64 p1) := by rw [← hW, cell_alloc_old (by simp)]; simp
  have hm1 : W.cell? ⟨w.heap.size, 1, none⟩ = some (.int .i64 p2) := by rw [← hW, cell_alloc_old (by simp)]; simp
  have hm2 : W.cell? ⟨w.heap.size + 1, 0, none⟩ = some (.int .i64 b1) := by rw [← hW]; simp
  have hm3 : W.cell? ⟨w.heap.size + 1, 1, none⟩ = some (.int .i64 b2) := by rw [← hW]; simp
  have hz0 : w.heap.size < W.heap.size := by rw [← hW]; simp; omega
  have hz1 : w.heap.size + 1 < W.heap.size := by rw [← hW]; simp
  have BW : Below w.heap.size w W := by rw [← hW]; exact HW.out
  have TW : Tab W.drew := (HT.out.below BW (Nat.le_refl _)).below (Below.refl _ _).drew (Nat.le_refl _)
  have HBW : Hid (Below w.heap.size w W) := BW
  have HTW : Hid (Tab W.drew) := TW
  clear hW HW BW TW HT
  generalize hA : w.heap.size = A at *
  have HA : Hid (w.heap.size = A) := hA
  clear hA
  have F1 : True := trivial
  have F2 : True := trivial
  go_region_held3 (fun w' => w'.cell? ⟨A, 0, none⟩ = some (.int .i64 p1) ∧ w'.cell? ⟨A, 1, none⟩ = some (.int .i64 p2) ∧ w'.cell? ⟨A + 1, 0, none⟩ = some (.int .i64 b1) ∧ w'.cell? ⟨A + 1, 1, none⟩ = some (.int .i64 b2)) (go_keep)
    (first
    | (go_at_call 25; clear F1; refine (K1 _ HTW.out).mono ?_; rintro e w1 ⟨u1, rfl, hr1, hb1, hn1⟩; have hx1 : ∀ q o, q < W.heap.size → w1.cell? ⟨q, o, none⟩ = W.cell? ⟨q, o, none⟩ := (fun q o hq => (bcell hb1).1 q o hq))
    | (go_at_call 33; clear F2; refine (E1 _).mono ?_; rintro e w2 ⟨rfl, hb2⟩; have hx2 : ∀ q o, q < W.heap.size → w2.cell? ⟨q, o, none⟩ = W.cell? ⟨q, o, none⟩ := (fun q o hq => ((bcell hb2).1 q o (Nat.lt_of_lt_of_le hq hb1.size)).trans (hx1 q o hq)))
    | (go_at_call 33; refine (E2 _).mono ?_; rintro e w3 ⟨rfl, hb3⟩; have hx3 : ∀ q o, q < W.heap.size → w3.cell? ⟨q, o, none⟩ = W.cell? ⟨q, o, none⟩ := (fun q o hq => ((bcell hb3).1 q o (Nat.lt_of_lt_of_le (Nat.lt_of_lt_of_le hq hb1.size) hb2.size)).trans (hx2 q o hq)))
    | (go_at_call 25; refine (K2 _ (((HTW.out.below hb1 (Nat.le_refl _)).below hb2 (Nat.le_refl _)).below hb3 (Nat.le_refl _))).mono ?_; rintro e w4 ⟨u2, rfl, hr2, hb4, hn2⟩; obtain ⟨ao2, c2, rfl⟩ := hr2.form; have hx4 : ∀ q o, q < W.heap.size → w4.cell? ⟨q, o, none⟩ = W.cell? ⟨q, o, none⟩ := (fun q o hq => ((bcell hb4).1 q o (Nat.lt_of_lt_of_le (Nat.lt_of_lt_of_le (Nat.lt_of_lt_of_le hq hb1.size) hb2.size) hb3.size)).trans (hx3 q o hq)))
    | (refine step_app' rB.kin rfl _ _ rfl W.heap.size u1 l1 l2 (by simp [Act.eval]) (((hr1.below hb2).below hb3).below hb4) ao2 l2.length c2 (by simp [Act.eval]) rfl hr2.seen.2 (by unfold maxLen; omega) (by show _ * 16 ≤ _; omega) (Nat.le_trans hb1.size (Nat.le_trans hb2.size (Nat.le_trans hb3.size hb4.size))) ?_; intro u5 w5 hr5 hg5 hw5 hn5; have hx5 : ∀ q o, q < W.heap.size → w5.cell? ⟨q, o, none⟩ = W.cell? ⟨q, o, none⟩ := (fun q o hq => (World.cell?_of_block (a := ⟨q, o, none⟩) (hg5.block q (Nat.lt_of_lt_of_le (Nat.lt_of_lt_of_le (Nat.lt_of_lt_of_le (Nat.lt_of_lt_of_le hq hb1.size) hb2.size) hb3.size) hb4.size) (fun e => Nat.lt_irrefl _ (Nat.lt_of_lt_of_le hq (hr1.lt q e.symm).1)))).trans (hx4 q o hq))))
  have hAe := HA.out
  subst hAe
  have X1 : Below W.heap.size W w1 := (Below.refl _ _).drew.trans hb1
  have X4 : Below W.heap.size W w4 := below_call' (below_call' (below_call' X1 hb2) hb3) hb4
  have X5 : Below W.heap.size W w5 := X4.grown hg5 X4.size (fun k hk => (hr1.lt k hk).1)
  have B5 : Below w.heap.size w w5 := below_call' HBW.out X5
  have S5 := HS.out.below B5
  obtain ⟨-, r1, r2, r3⟩ := S5.p0
  have hR := replace_rB (B := 0) (w := w5) (i := i) S5.row (hr5.lower (Nat.zero_le _)) (fun h => by rw [List.append_eq_nil_iff] at h; exact hn5 (hn1 h.1) h.2) (fun g' hg' e => by
    simp [Value.ownBlock] at hg'
    have := (hr5.lt g' e).1
    omega) (by rw [List.length_append]; omega) (Nat.zero_le _) hil2
  rw [← HL.out] at hR
  have HB5 : Hid (Below w.heap.size w w5) := B5
  clear hr1 hb1 hn1 hx1 hb2 hx2 hb3 hx3 hb4 hr2 hn2 hx4 hr5 hg5 hw5 hn5 hx5 X1 X4 X5 B5 S5 hm0 hm1 hm2 hm3 HBW HTW K1 K2 E1 E2
  go_wp2_with fail
  refine hR.mono ?_
  rintro e w6 ⟨v', rfl, hrow, hkeep, hwhere⟩
  obtain ⟨ao', c', rfl⟩ := hrow.form
  obtain ⟨y1, y2, y3⟩ := HS.out.turn HB5.out hrow hkeep hwhere
  generalize L'.length = n' at *
  have HY : Hid (SP F w p n L' (w6.setCell ⟨p, 1, none⟩ (.slice ao' n' c'))) := y3
  clear hR y3 hrow hkeep hwhere HS HB5
  go_wp2
  go_end0
  exact ⟨rfl, HY.out⟩
/-- A piece is carved out of a block. -/
theorem carve_any {F : Nat → Prop} {w : World} {p n : Nat} {v : Value} {L : List Bk} (hs : Sto F w p n v L) (ho : Okl n L) (hT : Tab w) (i : Nat) (hi : i < L.length) (pc b : Bk) (hbe : L.getD i (0, 0) = b) (h1 : b.1 ≤ pc.1) (h2 : bend pc ≤ bend b) (h5 : pc.2 ≤ 5) :
    Calls Tryd.prog 29 #[.pointer (some ⟨p, 0, none⟩), .int .i64 i, bval pc] w (fun e w' => ∃ L', CarveP F w p n L' e w' ∧ Okl n L' ∧ ∀ x, cov L' x ↔ cov L x ∧ ¬ inB pc x) := by
  refine (carve_core hs ho hT i hi pc b hbe h1 h2 h5 _ _ _ rfl rfl rfl).mono ?_
  intro e w' h
  have hsp : L = L.take i ++ b :: L.drop (i + 1) := by
    have := List.getElem_cons_drop hi
    rw [← hbe, List.getD_eq_getElem?_getD, List.getElem?_eq_getElem hi, Option.getD_some, this, List.take_append_drop]
  have hbm : b ∈ L := by rw [hsp]; simp
  have hbb := ho.blk hbm
  have hpp := bend_pos pc
  have hg := ho.good
  rw [hsp] at hg
  obtain ⟨g1, g2⟩ := hg.carve h1 h2 (blk_cvr h1 (show pc.1 ≤ 1048576 by omega)) (blk_cvr h2 (show bend b ≤ 1048576 by omega))
  rw [← hsp] at g2
  refine ⟨_, h, ⟨g1, fun y hy => ?_, ho.max⟩, g2⟩
  have hy1 := bend_pos y
  have hc : cov (L.take i ++ ((blkL b.1 pc.1 ++ blkL (bend pc) (bend b)) ++ L.drop (i + 1))) (bend y - 1) := ⟨y, hy, by omega, by omega⟩
  obtain ⟨z, hz, hz1, hz2⟩ := ((g2 _).1 hc).1
  have := ho.top z hz
  omega
end Go.Proofs.YtbpihdeinkopfaaDoor
