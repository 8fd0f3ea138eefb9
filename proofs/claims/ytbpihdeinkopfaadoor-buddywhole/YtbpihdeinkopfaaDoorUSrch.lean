/- sort.Search as layer 7 asks it: the first block that ends behind a frame. -/
import Derived.Test.YtbpihdeinkopfaaDoorUSto
import Derived.Lib.Walk
import Derived.Shelf.Abstract
namespace Go.Proofs.YtbpihdeinkopfaaDoor
open Go.RowKit

theorem lt_bend (z : Int) (b : Bk) : z < (bend b : Nat) ↔ z.toNat < bend b := by
  have := bend_pos b
  omega
theorem mid_behind {n : Nat} {L : List Bk} (ho : Okl n L) (z : Int) {i : Nat} (hi : i < L.length) : decide (z < (bend (L.getD i (0, 0)) : Nat)) = decide (behind L z.toNat ≤ i) := by
  have h := behind_mono ho.good.sorted z.toNat i (L.getD i (0, 0)) (by rw [List.getD_eq_getElem?_getD, List.getElem?_eq_getElem hi]; rfl)
  rw [decide_eq_decide, lt_bend]
  exact h

set_option maxHeartbeats 2000000 in
theorem search_any {F : Nat → Prop} {w : World} {p n : Nat} {v : Value} {L : List Bk} (hs : Sto F w p n v L) (ho : Okl n L) (bs bf : Nat) (z : Int)
    (h1 : w.cell? ⟨bs, 0, none⟩ = some (.pointer (some ⟨p, 0, none⟩))) (h2 : w.cell? ⟨bf, 0, none⟩ = some (.int .i64 z)) :
    Calls Tryd.prog 40 #[.int .i64 L.length, .func (.func 41) #[] #[.pointer (some ⟨bs, 0, none⟩), .pointer (some ⟨bf, 0, none⟩)]] w fun e w' => e = .returned (.int .i64 (behind L z.toNat)) ∧ Below w.heap.size w w' := by
  have hle := behind_le L z.toNat
  have hlen := ho.len
  have l1 := World.block_lt_of_cell? w _ h1
  have l2 := World.block_lt_of_cell? w _ h2
  obtain ⟨lb, hlb⟩ : ∃ lb : Array Value, lb = #[.pointer (some ⟨bs, 0, none⟩), .pointer (some ⟨bf, 0, none⟩)] := ⟨_, rfl⟩
  rw [← hlb]
  have H : Hid (∀ (wr : World) (i : Nat), Below w.heap.size w wr → i < L.length → Calls Tryd.prog 41 (#[.int .i64 i] ++ lb) wr fun e w' => e = .returned (.bool (decide (behind L z.toNat ≤ i))) ∧ Below w.heap.size w w') := by
    intro wr i hb hi
    have e1 := (bcell hb).1 bs 0 l1
    have e2 := (bcell hb).1 bf 0 l2
    rw [hlb]
    refine (show Calls Tryd.prog 41 (#[.int .i64 (i : Int)] ++ #[.pointer (some ⟨bs, 0, none⟩), .pointer (some ⟨bf, 0, none⟩)]) wr _ from ends1_any (hs.below hb) ho bs bf z i hi (e1.trans h1) (e2.trans h2)).mono ?_
    rintro e w1 ⟨rfl, hb1⟩
    rw [mid_behind ho z hi]
    exact ⟨rfl, below_call' hb hb1⟩
  clear hs ho h1 h2 l1 l2 hlb
  have eg : ∀ args w, (callFunc 41 args).run Tryd.prog w = .ok (.enter 41 args) w := enters_of Tryd.func41 (by kernel_rfl) rfl
  generalize behind L z.toNat = m at *
  generalize L.length = len at *
  go_enter Tryd.func40, Tryd.ntmps40
  go_wp2
  go_loopw [5, 6] (fun a b wr => ∃ lo hi : Nat, a = .int .i64 lo ∧ b = .int .i64 hi ∧ Hid (lo ≤ m ∧ m ≤ hi) ∧ lo ≤ hi ∧ hi ≤ len ∧ Hid (Below w.heap.size w wr)) (fun a b _ => (intOf b).toNat - (intOf a).toNat)
  case atStart => exact ⟨0, len, rfl, rfl, ⟨Nat.zero_le _, hle⟩, Nat.zero_le _, Nat.le_refl _, Below.refl _ _⟩
  case round =>
    obtain ⟨lo, hi, rfl, rfl, g1, g2, g3, hb⟩ := hrel
    have HL : Hid (m ≤ len) := hle
    clear hle
    by_cases hlt : lo < hi
    · have hc := H.out wr ((lo + hi) / 2) hb.out (by omega)
      rw [show (((lo + hi) / 2 : Nat) : Int) = ((lo : Int) + (hi : Int)) / 2 by omega] at hc
      by_cases hm : m ≤ (lo + hi) / 2
      · rw [decide_eq_true hm] at hc
        have hm' : Hid (m ≤ (lo + hi) / 2) := hm
        clear hm
        go_wp2_with (go_at_fn 41; refine hc.mono ?_; rintro e w1 ⟨rfl, hb1⟩)
        go_roundw
        case rel => exact ⟨lo, (lo + hi) / 2, rfl, by go_num, ⟨g1.out.1, hm'.out⟩, by omega, by omega, hb1⟩
        case measure => simp only [intOf]; omega
      · rw [decide_eq_false hm] at hc
        have hm' : Hid (¬ m ≤ (lo + hi) / 2) := hm
        clear hm
        go_wp2_with (go_at_fn 41; refine hc.mono ?_; rintro e w1 ⟨rfl, hb1⟩)
        go_roundw
        case rel => exact ⟨(lo + hi) / 2 + 1, hi, by go_num, rfl, ⟨by have := hm'.out; omega, g1.out.2⟩, by omega, g3, hb1⟩
        case measure => simp only [intOf]; omega
    · obtain rfl : lo = m := by have := g1.out; omega
      go_wp2
      go_ret
      exact ⟨rfl, hb.out⟩

end Go.Proofs.YtbpihdeinkopfaaDoor
