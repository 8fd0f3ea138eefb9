/- Which block is to be taken from; how many frames are free. -/
import Derived.Test.YtbpihdeinkopfaaDoorUTurn
namespace Go.Proofs.YtbpihdeinkopfaaDoor
open Go.RowKit

/-- Of the first k: the one of the least order that is enough, of the lowest frames. -/
def lst (o : Nat) (L : List Bk) : Nat → Option Nat
  | 0 => none
  | k + 1 => match lst o L k with
    | none => if o ≤ (L.getD k (0, 0)).2 then some k else none
    | some m => if o ≤ (L.getD k (0, 0)).2 ∧ (L.getD k (0, 0)).2 < (L.getD m (0, 0)).2 then some k else some m
theorem lst_spec (o : Nat) (L : List Bk) : ∀ k, match lst o L k with
    | none => ∀ j, j < k → (L.getD j (0, 0)).2 < o
    | some m => m < k ∧ o ≤ (L.getD m (0, 0)).2 ∧ ∀ j, j < k → o ≤ (L.getD j (0, 0)).2 → (L.getD m (0, 0)).2 ≤ (L.getD j (0, 0)).2 ∧ ((L.getD m (0, 0)).2 = (L.getD j (0, 0)).2 → m ≤ j)
  | 0 => by simp [lst]
  | k + 1 => by
    have ih := lst_spec o L k
    cases h : lst o L k with
    | none =>
      rw [h] at ih
      simp only at ih
      by_cases c : o ≤ (L.getD k (0, 0)).2
      · simp only [lst, h, if_pos c]
        refine ⟨by omega, c, fun j hj hjo => ?_⟩
        rcases Nat.lt_or_ge j k with h1 | h1
        · have := ih j h1; omega
        · obtain rfl : j = k := by omega
          exact ⟨Nat.le_refl _, fun _ => Nat.le_refl _⟩
      · simp only [lst, h, if_neg c]
        intro j hj
        rcases Nat.lt_or_ge j k with h1 | h1
        · exact ih j h1
        · obtain rfl : j = k := by omega
          omega
    | some m =>
      rw [h] at ih
      simp only at ih
      obtain ⟨i1, i2, i3⟩ := ih
      by_cases c : o ≤ (L.getD k (0, 0)).2 ∧ (L.getD k (0, 0)).2 < (L.getD m (0, 0)).2
      · simp only [lst, h, if_pos c]
        refine ⟨by omega, c.1, fun j hj hjo => ?_⟩
        rcases Nat.lt_or_ge j k with h1 | h1
        · have := i3 j h1 hjo; omega
        · obtain rfl : j = k := by omega
          exact ⟨Nat.le_refl _, fun _ => Nat.le_refl _⟩
      · simp only [lst, h, if_neg c]
        refine ⟨by omega, i2, fun j hj hjo => ?_⟩
        rcases Nat.lt_or_ge j k with h1 | h1
        · exact i3 j h1 hjo
        · obtain rfl : j = k := by omega
          exact ⟨by omega, fun _ => by omega⟩
theorem lst_lt {o : Nat} {L : List Bk} {k m : Nat} (h : lst o L k = some m) : m < k := by
  have := lst_spec o L k
  rw [h] at this
  exact this.1

set_option maxRecDepth 100000 in
set_option maxHeartbeats 4000000 in
theorem least_any {F : Nat → Prop} {w : World} {p n : Nat} {v : Value} {L : List Bk} (hs : Sto F w p n v L) (ho : Okl n L) (o : Nat) :
    Calls Tryd.prog 28 #[.pointer (some ⟨p, 0, none⟩), .int .i64 o] w fun e w' => e = .returned (.tuple #[.int .i64 ((lst o L L.length).getD 0), .bool (lst o L L.length).isSome]) ∧ Below w.heap.size w w' := by
  have hlen := ho.len
  obtain ⟨ao, c, rfl⟩ := hs.row.form
  obtain ⟨q0, q1, q2, q3⟩ := hs.p0
  have HS : Hid (Sto F w p n (.slice ao L.length c) L) := hs
  clear hs ho
  go_enter Tryd.func28, Tryd.ntmps28
  go_wp2
  go_loopw [6, 7, 15] (fun bs is iv W => ∃ (k bn : Nat) (ib : Bool), k ≤ L.length ∧ iv = .int .i64 k ∧ bs = .int .i64 bn ∧ is = .bool ib ∧ Hid (bn = (lst o L k).getD 0 ∧ ib = (lst o L k).isSome) ∧ Hid (Below w.heap.size w W)) (fun _ _ iv _ => L.length - (intOf iv).toNat)
  case atStart => exact ⟨0, 0, false, Nat.zero_le _, rfl, rfl, rfl, ⟨rfl, rfl⟩, Below.refl _ _⟩
  case round =>
    obtain ⟨k, bn, ib, hk, rfl, rfl, rfl, HI, HB⟩ := hrel
    by_cases hlt : k < L.length
    · have hltz : (k : Int) < (L.length : Int) := by omega
      have S1 := HS.out.below HB.out
      have S2 : Sto F (wr.alloc (.cells #[.int .i64 (L.getD k (0, 0)).1, .int .i64 (L.getD k (0, 0)).2] 48)) p n (.slice ao L.length c) L := S1.below ((Below.refl _ _).alloc (Nat.le_refl _) _)
      obtain ⟨g, rfl, _, _, hg, _, _, hat⟩ := S1.row.at hlt
      obtain ⟨c0, c1⟩ := rB.at hat
      simp only [show rB.n = 2 from rfl, show rB.zero = (0, 0) from rfl] at c0 c1
      have hHI := HI.out
      have HBA : Hid (Below w.heap.size w (wr.alloc (.cells #[.int .i64 (L.getD k (0, 0)).1, .int .i64 (L.getD k (0, 0)).2] 48))) := HB.out.alloc HB.out.size _
      obtain ⟨s0, s1, s2, s3⟩ := S2.p0
      have hd1 : decide ((o : Int) ≤ ((L.getD k (0, 0)).2 : Int)) = decide (o ≤ (L.getD k (0, 0)).2) := by rw [decide_eq_decide]; omega
      cases hl : lst o L k with
      | none =>
        rw [hl] at hHI
        obtain ⟨rfl, rfl⟩ := hHI
        have hn : lst o L (k + 1) = if o ≤ (L.getD k (0, 0)).2 then some k else none := by simp only [lst, hl]
        clear hat S1 S2 hl HI HS
        generalize L.getD k (0, 0) = b at *
        by_cases ho1 : o ≤ b.2
        · rw [if_pos ho1] at hn
          have hd1' := decide_eq_true ho1
          rw [decide_eq_true ho1] at hd1
          have HN : Hid (lst o L (k + 1) = some k) := hn
          clear hn ho1
          go_wp2
          go_quiet (fail)
          go_wp2
          go_roundw
          case rel => exact ⟨k + 1, k, true, by omega, by go_num, rfl, rfl, by rw [HN.out]; exact ⟨rfl, rfl⟩, below_drewN HBA.out _⟩
          case measure => simp only [intOf]; omega
        · rw [if_neg ho1] at hn
          have hd1' := decide_eq_false ho1
          rw [decide_eq_false ho1] at hd1
          have HN : Hid (lst o L (k + 1) = none) := hn
          clear hn ho1
          go_wp2
          go_quiet (fail)
          go_wp2
          go_roundw
          case rel => exact ⟨k + 1, 0, false, by omega, by go_num, rfl, rfl, by rw [HN.out]; exact ⟨rfl, rfl⟩, below_drewN HBA.out _⟩
          case measure => simp only [intOf]; omega
      | some m =>
        rw [hl] at hHI
        obtain ⟨rfl, rfl⟩ := hHI
        have hmk := lst_lt hl
        have hml : (bn : Int) < (L.length : Int) := by omega
        obtain ⟨g', e', _, _, hg', _, _, hat'⟩ := S2.row.at (show bn < L.length by omega)
        cases e'
        obtain ⟨d0, d1⟩ := rB.at hat'
        simp only [show rB.n = 2 from rfl, show rB.zero = (0, 0) from rfl] at d0 d1
        have hn : lst o L (k + 1) = if o ≤ (L.getD k (0, 0)).2 ∧ (L.getD k (0, 0)).2 < (L.getD bn (0, 0)).2 then some k else some bn := by simp only [lst, hl]
        have hd2 : decide (((L.getD k (0, 0)).2 : Int) < ((L.getD bn (0, 0)).2 : Int)) = decide ((L.getD k (0, 0)).2 < (L.getD bn (0, 0)).2) := by rw [decide_eq_decide]; omega
        clear hat hat' S1 S2 hl HI HS hg'
        generalize L.getD k (0, 0) = b at *
        generalize L.getD bn (0, 0) = bm at *
        by_cases ho1 : o ≤ b.2
        · by_cases ho2 : b.2 < bm.2
          · rw [if_pos ⟨ho1, ho2⟩] at hn
            have hd1' := decide_eq_true ho1
            rw [decide_eq_true ho1] at hd1
            have hd2' := decide_eq_true ho2
            rw [decide_eq_true ho2] at hd2
            have HN : Hid (lst o L (k + 1) = some k) := hn
            clear hn ho1 ho2
            go_wp2
            go_quiet (fail)
            go_wp2
            go_roundw
            case rel => exact ⟨k + 1, k, true, by omega, by go_num, rfl, rfl, by rw [HN.out]; exact ⟨rfl, rfl⟩, below_drewN HBA.out _⟩
            case measure => simp only [intOf]; omega
          · rw [if_neg (by omega)] at hn
            have hd1' := decide_eq_true ho1
            rw [decide_eq_true ho1] at hd1
            have hd2' := decide_eq_false ho2
            rw [decide_eq_false ho2] at hd2
            have HN : Hid (lst o L (k + 1) = some bn) := hn
            clear hn ho1 ho2
            go_wp2
            go_quiet (fail)
            go_wp2
            go_roundw
            case rel => exact ⟨k + 1, bn, true, by omega, by go_num, rfl, rfl, by rw [HN.out]; exact ⟨rfl, rfl⟩, below_drewN HBA.out _⟩
            case measure => simp only [intOf]; omega
        · rw [if_neg (by omega)] at hn
          have hd1' := decide_eq_false ho1
          rw [decide_eq_false ho1] at hd1
          have HN : Hid (lst o L (k + 1) = some bn) := hn
          clear hn ho1 hd2
          go_wp2
          go_quiet (fail)
          go_wp2
          go_roundw
          case rel => exact ⟨k + 1, bn, true, by omega, by go_num, rfl, rfl, by rw [HN.out]; exact ⟨rfl, rfl⟩, below_drewN HBA.out _⟩
          case measure => simp only [intOf]; omega
    · obtain rfl : k = L.length := by omega
      obtain ⟨hI1, hI2⟩ := HI.out
      subst hI1
      subst hI2
      go_wp2
      go_ret2
      exact ⟨rfl, HB.out⟩
end Go.Proofs.YtbpihdeinkopfaaDoor
