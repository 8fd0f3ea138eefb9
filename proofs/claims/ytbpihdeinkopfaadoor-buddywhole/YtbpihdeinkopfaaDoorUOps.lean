/- What a store tells; a new one, a clone. -/
import Derived.Test.YtbpihdeinkopfaaDoorULeast
namespace Go.Proofs.YtbpihdeinkopfaaDoor
open Go.RowKit

theorem cnt_le (F : Nat → Bool) : ∀ n, cnt F n ≤ n
  | 0 => Nat.le_refl _
  | n + 1 => by
    have := cnt_le F n
    rw [cnt]
    split <;> omega
theorem Okl.take_size {n : Nat} {L : List Bk} (h : Okl n L) (k : Nat) : size (L.take k) ≤ 512 := by
  rw [size_cnt (L.take k) n (h.good.sorted.sublist (List.take_sublist _ _)) fun b hb => h.top b (List.mem_of_mem_take hb)]
  have := cnt_le (covB (L.take k)) n
  have := h.max
  omega
theorem size_take (L : List Bk) (k : Nat) (hk : k < L.length) : size (L.take (k + 1)) = size (L.take k) + 2 ^ (L.getD k (0, 0)).2 := by
  unfold size
  rw [List.take_succ_eq_append_getElem hk, List.map_append, List.sum_append, List.getD_eq_getElem?_getD, List.getElem?_eq_getElem hk]
  simp

set_option maxHeartbeats 2000000 in
theorem count_any {F : Nat → Prop} {w : World} {p n : Nat} {v : Value} {L : List Bk} (hs : Sto F w p n v L) (ho : Okl n L) :
    Calls Tryd.prog 21 #[.pointer (some ⟨p, 0, none⟩)] w fun e w' => e = .returned (.int .i64 (size L)) ∧ Below w.heap.size w w' := by
  have hlen := ho.len
  obtain ⟨ao, c, rfl⟩ := hs.row.form
  obtain ⟨q0, q1, q2, q3⟩ := hs.p0
  have HS : Hid (Sto F w p n (.slice ao L.length c) L) := hs
  have HO : Hid (Okl n L) := ho
  clear hs ho
  go_enter Tryd.func21, Tryd.ntmps21
  go_wp2
  go_loopw [3, 11] (fun nv iv W => ∃ (k m : Nat), k ≤ L.length ∧ m ≤ 512 ∧ iv = .int .i64 k ∧ nv = .int .i64 m ∧ Hid (m = size (L.take k)) ∧ Hid (Below w.heap.size w W)) (fun _ iv _ => L.length - (intOf iv).toNat)
  case atStart => exact ⟨0, 0, Nat.zero_le _, Nat.zero_le _, rfl, rfl, by show 0 = size _; rfl, Below.refl _ _⟩
  case round =>
    obtain ⟨k, m, hk, hm, rfl, rfl, HI, HB⟩ := hrel
    by_cases hlt : k < L.length
    · have hltz : (k : Int) < (L.length : Int) := by omega
      have S1 := HS.out.below HB.out
      obtain ⟨g, rfl, _, _, hg, _, _, hat⟩ := S1.row.at hlt
      obtain ⟨c0, c1⟩ := rB.at hat
      simp only [show rB.n = 2 from rfl, show rB.zero = (0, 0) from rfl] at c0 c1
      have h5 := (HO.out.blk (HO.out.get hlt)).2.1
      have hsz := size_take L k hlt
      have hbd := HO.out.take_size (k + 1)
      rw [← HI.out] at hsz
      have HBA : Hid (Below w.heap.size w (wr.alloc (.cells #[.int .i64 (L.getD k (0, 0)).1, .int .i64 (L.getD k (0, 0)).2] 48))) := HB.out.alloc HB.out.size _
      clear hat S1
      generalize L.getD k (0, 0) = b at *
      have e : ((2 ^ b.2 : Nat) : Int) = 2 ^ b.2 := by simp
      have hp0 : (0 : Int) ≤ 2 ^ b.2 := Int.le_of_lt (Int.pow_pos (by decide))
      have hp1 : (m : Int) + 2 ^ b.2 ≤ 512 := by omega
      have HE : Hid (size (L.take (k + 1)) = m + 2 ^ b.2 ∧ ((m + 2 ^ b.2 : Nat) : Int) = (m : Int) + 2 ^ b.2 ∧ m + 2 ^ b.2 ≤ 512) := ⟨hsz, by omega, by omega⟩
      clear e hsz hbd HS HO
      go_wp2
      go_roundw
      case rel => exact ⟨k + 1, m + 2 ^ b.2, by omega, HE.out.2.2, by go_num, by rw [HE.out.2.1], by rw [HE.out.1]; rfl, HBA⟩
      case measure => simp only [intOf]; omega
    · obtain rfl : k = L.length := by omega
      have hI := HI.out
      rw [List.take_length] at hI
      subst hI
      clear HI
      go_wp2
      go_ret
      exact ⟨rfl, HB.out⟩

set_option maxHeartbeats 1000000 in
theorem free_any {F : Nat → Prop} {w : World} {p n : Nat} {v : Value} {L : List Bk} (hs : Sto F w p n v L) (ho : Okl n L) :
    Calls Tryd.prog 20 #[.pointer (some ⟨p, 0, none⟩)] w (ClonePrB w L) := by
  have hlen := ho.len
  have hC := clone_rB hs.row (by omega)
  obtain ⟨q0, q1, q2, q3⟩ := hs.p0
  clear hs ho
  go_enter Tryd.func20, Tryd.ntmps20
  go_wp2_with fail
  refine hC.mono ?_
  rintro e w1 ⟨v', rfl, hr, hb⟩
  have HR : Hid (Row rB w.heap.size w1 v' L) := hr
  clear hr
  go_wp2
  go_ret
  exact ⟨_, rfl, HR.out, hb⟩

/-- Whether a frame is free. -/
def freeB (L : List Bk) (z : Int) : Bool := decide (0 ≤ z) && covB L z.toNat
theorem upTo_free {L : List Bk} (g : Good L) (z : Int) : upTo L (behind L z.toNat) z = freeB L z := by
  unfold freeB
  by_cases h : 0 ≤ z
  · have hd : decide (0 ≤ z) = true := decide_eq_true h
    rw [hd, Bool.true_and]
    have hi := g.cov_iff z.toNat
    by_cases hc : cov L z.toNat
    · obtain ⟨b, hb, h1⟩ := hi.1 hc
      rw [(covB_iff _ _).2 hc]
      unfold upTo
      rw [hb]
      simp
      omega
    · rw [(covB_false _ _).2 hc]
      unfold upTo
      cases hb : L[behind L z.toNat]? with
      | none => rfl
      | some b =>
        simp only [decide_eq_false_iff_not]
        intro h1
        exact hc (hi.2 ⟨b, hb, by omega⟩)
  · have hd : decide (0 ≤ z) = false := decide_eq_false h
    rw [hd, Bool.false_and]
    unfold upTo
    cases hb : L[behind L z.toNat]? with
    | none => rfl
    | some b =>
      simp only [decide_eq_false_iff_not]
      omega
set_option maxHeartbeats 1000000 in
theorem isFree_any {F : Nat → Prop} {w : World} {p n : Nat} {v : Value} {L : List Bk} (hs : Sto F w p n v L) (ho : Okl n L) (z : Int) :
    Calls Tryd.prog 24 #[.pointer (some ⟨p, 0, none⟩), .int .i64 z] w fun e w' => e = .returned (.bool (freeB L z)) ∧ Below w.heap.size w w' := by
  have hE := endsBehind_any hs ho z
  have hU := fun w (h : Sto F w p n v L) => beginsUpTo_any h (behind L z.toNat) z
  rw [← upTo_free ho.good z]
  have HS : Hid (Sto F w p n v L) := hs
  generalize upTo L (behind L z.toNat) z = r at *
  clear hs ho
  go_enter Tryd.func24, Tryd.ntmps24
  go_wp2_with fail
  refine hE.mono ?_
  rintro e w1 ⟨rfl, hb⟩
  have hV := hU w1 (HS.out.below hb)
  clear hE hU
  go_wp2_with (go_at_call 32; refine hV.mono ?_; rintro e w2 ⟨rfl, hw⟩; obtain rfl := hw.symm; clear hw)
  go_ret
  exact ⟨rfl, hb⟩

/-- A store that is new since w. -/
def NewS (w : World) (n : Nat) (L : List Bk) (q : Nat) (w' : World) : Prop := ∃ v, Sto (fun c => w.heap.size ≤ c ∧ c < w'.heap.size) w' q n v L
set_option maxHeartbeats 2000000 in
theorem cloneS_any {F : Nat → Prop} {w : World} {p n : Nat} {v : Value} {L : List Bk} (hs : Sto F w p n v L) (ho : Okl n L) :
    Calls Tryd.prog 23 #[.pointer (some ⟨p, 0, none⟩)] w fun e w' => ∃ q, e = .returned (.pointer (some ⟨q, 0, none⟩)) ∧ NewS w n L q w' ∧ Below w.heap.size w w' := by
  have hlen := ho.len
  have hC := clone_rB (w := w.drew) (hs.row.below (Below.refl _ _).drew) (by omega)
  obtain ⟨q0, q1, q2, q3⟩ := hs.p0
  clear hs ho
  go_enter Tryd.func23, Tryd.ntmps23
  go_wp2
  go_region_held3 (fun w' => w'.cell? ⟨p, 0, none⟩ = some (.int .i64 n) ∧ w'.cell? ⟨p, 1, none⟩ = some v) (go_keep) (first | (go_at_call 36; refine hC.mono ?_; rintro e w1 ⟨v', rfl, hr, hb⟩; obtain ⟨ao', c', rfl⟩ := hr.form; have hx : ∀ o, w1.cell? ⟨p, o, none⟩ = w.cell? ⟨p, o, none⟩ := (fun o => (bcell hb).1 p o q3)))
  have hb1 : Below w.heap.size w w1 := (Below.refl _ _).drew.trans hb
  have HN : Hid (NewS w n L w1.heap.size (w1.alloc (.cells #[.int .i64 n, .slice ao' L.length c'] 55))) := by
    refine ⟨_, Laid.new _ _ _, (hr.lower (Nat.zero_le _)).below ((Below.refl _ _).alloc (Nat.le_refl _) _), ⟨hb1.size, by simp⟩, fun g hg => ?_, fun c hc => hc.2⟩
    have := hr.lt g hg
    exact ⟨this.1, by simp; omega⟩
  have HB : Hid (Below w.heap.size w (w1.alloc (.cells #[.int .i64 n, .slice ao' L.length c'] 55))) := hb1.alloc hb1.size _
  clear hr hb hx hb1 hC
  go_wp2
  go_ret
  exact ⟨_, rfl, HN.out, HB.out⟩
end Go.Proofs.YtbpihdeinkopfaaDoor
