/- What Load and Store of package phys answer, and what they leave. -/
import Derived.Test.YteoblaopbhdneaaMMem
namespace Go.Proofs.Yteoblaopbhdneaa
open Go.RowKit

abbrev ptr (b : Nat) : Value := .pointer (some ⟨b, 0, none⟩)
abbrev errA : Value := .iface 27 (.int .i64 1)
theorem okP_of {n : Nat} {a i : Int} (h : okP n a i = true) : 0 ≤ a ∧ a < n ∧ 0 ≤ i ∧ i < 8 := by simpa [okP] using h

theorem okP_nat {n : Nat} {a i : Int} (h : okP n a i = true) : ∃ x y : Nat, a = x ∧ i = y ∧ x < n ∧ y < 8 := by
  have := okP_of h
  exact ⟨a.toNat, i.toNat, by omega, by omega, by omega, by omega⟩
theorem okP_zero (n : Nat) (a : Int) : okP n a 0 = okF n a := by unfold okP okF; rw [Bool.eq_iff_iff, decide_eq_true_iff, decide_eq_true_iff]; omega
theorem okF_nat {n : Nat} {a : Int} (h : okF n a = true) : ∃ x : Nat, a = x ∧ x < n := by
  have : 0 ≤ a ∧ a < n := by simpa [okF] using h
  exact ⟨a.toNat, by omega, by omega⟩

set_option maxHeartbeats 400000 in
theorem load_no {B : Nat} {w : World} {b s n : Nat} {f : Nat → Nat} (h : Mem B w b s n f) (a i : Int) (hn : okP n a i = false) :
    Calls Try.prog 18 #[.pointer (some ⟨b, 0, none⟩), .int .i64 a, .int .i64 i] w fun e w' => e = .returned (.tuple #[.int .u64 0, errA]) ∧ w' = w := by
  have hF := hasPlace_any h a i
  clear h
  rw [hn] at hF
  go_enter Try.func18, Try.ntmps18
  go_wp2_with (go_at_call 34; refine hF.mono ?_; rintro e w1 ⟨rfl, hw⟩; obtain rfl := hw.symm; clear hw)
  go_ret2
  exact ⟨rfl, rfl⟩

set_option maxHeartbeats 400000 in
theorem load_yes {B : Nat} {w : World} {b s n : Nat} {f : Nat → Nat} (h : Mem B w b s n f) (a i : Nat) (ha : a < n) (hi : i < 8) :
    Calls Try.prog 18 #[.pointer (some ⟨b, 0, none⟩), .int .i64 a, .int .i64 i] w fun e w' => e = .returned (.tuple #[.int .u64 (f (a * 8 + i)), .nilIface]) ∧ w' = w := by
  have hF := hasPlace_any h a i
  have hn : okP n a i = true := by simp [okP]; omega
  rw [hn] at hF
  obtain ⟨⟨cap, hp, _⟩, hc, hz⟩ := h.rules
  have hc1 := hc (a * 8 + i) (by omega)
  clear h hc hn
  go_enter Try.func18, Try.ntmps18
  go_wp2_with (go_at_call 34; refine hF.mono ?_; rintro e w1 ⟨rfl, hw⟩; obtain rfl := hw.symm; clear hw)
  go_ret2
  exact ⟨rfl, rfl⟩

set_option maxHeartbeats 400000 in
theorem store_no {B : Nat} {w : World} {b s n : Nat} {f : Nat → Nat} (h : Mem B w b s n f) (a i : Int) (v : Nat) (hn : okP n a i = false) :
    Calls Try.prog 19 #[.pointer (some ⟨b, 0, none⟩), .int .i64 a, .int .i64 i, .int .u64 v] w fun e w' => e = .returned errA ∧ w' = w := by
  have hF := hasPlace_any h a i
  clear h
  rw [hn] at hF
  go_enter Try.func19, Try.ntmps19
  go_wp2_with (go_at_call 34; refine hF.mono ?_; rintro e w1 ⟨rfl, hw⟩; obtain rfl := hw.symm; clear hw)
  go_ret
  exact ⟨rfl, rfl⟩

set_option maxHeartbeats 400000 in
theorem store_yes {B : Nat} {w : World} {b s n : Nat} {f : Nat → Nat} (h : Mem B w b s n f) (a i v : Nat) (ha : a < n) (hi : i < 8) :
    Calls Try.prog 19 #[.pointer (some ⟨b, 0, none⟩), .int .i64 a, .int .i64 i, .int .u64 v] w fun e w' => e = .returned .nilIface ∧ w' = w.setCell ⟨s, a * 8 + i, none⟩ (.int .u64 v) := by
  have hF := hasPlace_any h a i
  have hn : okP n a i = true := by simp [okP]; omega
  rw [hn] at hF
  obtain ⟨⟨cap, hp, _⟩, hc, hz⟩ := h.rules
  have hc1 := hc (a * 8 + i) (by omega)
  clear h hc hn
  go_enter Try.func19, Try.ntmps19
  go_wp2_with (go_at_call 34; refine hF.mono ?_; rintro e w1 ⟨rfl, hw⟩; obtain rfl := hw.symm; clear hw)
  go_ret
  exact ⟨rfl, rfl⟩

/-- One word turned. -/
def upd (f : Nat → Nat) (p v : Nat) : Nat → Nat := fun j => if j = p then v else f j
theorem Mem.set {B : Nat} {w : World} {b s n : Nat} {f : Nat → Nat} (h : Mem B w b s n f) (p v : Nat) : Mem B (w.setCell ⟨s, p, none⟩ (.int .u64 v)) b s n (upd f p v) := by
  obtain ⟨c, h2, h3⟩ := h.row
  refine ⟨h.hb, h.hs, h.ne, ?_, ?_⟩
  · obtain ⟨cap, hc, h1⟩ := h.ptr
    exact ⟨cap, hc, (heap_setCell_other w _ b _ h.ne).trans h1⟩
  · refine ⟨c.setIfInBounds p (.int .u64 v), heap_setCell_same w s p c _ _ h2, fun j hj => ?_⟩
    have := h3 j hj
    have hl := (Array.getElem?_eq_some_iff.1 this).1
    unfold upd
    rw [Array.getElem?_setIfInBounds]
    by_cases e : j = p
    · subst e; simp [hl]
    · rw [if_neg (fun q => e q.symm), if_neg e, this]

theorem Mem.kept {B : Nat} {w w' : World} {row : Option Nat} {b s n : Nat} {f : Nat → Nat} (h : Mem B w b s n f) (hg : w.grownBy w' row) (h1 : some b ≠ row) (h2 : some s ≠ row) : Mem B w' b s n f := by
  obtain ⟨lb, ls⟩ := h.lt
  refine ⟨h.hb, h.hs, h.ne, ?_, ?_⟩
  · rw [hg.block b lb h1]; exact h.ptr
  · rw [hg.block s ls h2]; exact h.row

theorem grown_set (w : World) (s p : Nat) (v : Value) : w.grownBy (w.setCell ⟨s, p, none⟩ v) (some s) :=
  ⟨rfl, rfl, rfl, by simp [World.setCell], fun k _ hk => heap_setCell_other w _ k _ (fun e => hk (by rw [e]))⟩

theorem Mem.congr {B : Nat} {w : World} {b s n : Nat} {f g : Nat → Nat} (h : Mem B w b s n f) (e : ∀ j, j < 8 * n → f j = g j) : Mem B w b s n g := by
  obtain ⟨c, h2, h3⟩ := h.row
  exact ⟨h.hb, h.hs, h.ne, h.ptr, c, h2, fun j hj => by rw [← e j hj]; exact h3 j hj⟩

/-- Store, told by the memory. -/
theorem store_mem {B : Nat} {w : World} {b s n : Nat} {f : Nat → Nat} (h : Mem B w b s n f) (a i v : Nat) (ha : a < n) (hi : i < 8) :
    Calls Try.prog 19 #[.pointer (some ⟨b, 0, none⟩), .int .i64 a, .int .i64 i, .int .u64 v] w fun e w' => e = .returned .nilIface ∧ Mem B w' b s n (upd f (a * 8 + i) v) ∧ w.grownBy w' (some s) := by
  refine (store_yes h a i v ha hi).mono ?_
  rintro e w1 ⟨rfl, rfl⟩
  exact ⟨rfl, h.set _ _, grown_set _ _ _ _⟩

/-- Eight words turned. -/
theorem Mem.set8 {B : Nat} {w : World} {b s n : Nat} {f : Nat → Nat} (h : Mem B w b s n f) (a : Nat) (g : Nat → Nat) :
    Mem B ((((((((w.setCell ⟨s, a * 8, none⟩ (.int .u64 (g 0))).setCell ⟨s, a * 8 + 1, none⟩ (.int .u64 (g 1))).setCell ⟨s, a * 8 + 2, none⟩ (.int .u64 (g 2))).setCell ⟨s, a * 8 + 3, none⟩ (.int .u64 (g 3))).setCell
      ⟨s, a * 8 + 4, none⟩ (.int .u64 (g 4))).setCell ⟨s, a * 8 + 5, none⟩ (.int .u64 (g 5))).setCell ⟨s, a * 8 + 6, none⟩ (.int .u64 (g 6))).setCell ⟨s, a * 8 + 7, none⟩ (.int .u64 (g 7))) b s n (fun j => if j / 8 = a then g (j % 8) else f j) := by
  refine ((((((((h.set _ _).set _ _).set _ _).set _ _).set _ _).set _ _).set _ _).set _ _).congr fun j hj => ?_
  unfold upd
  by_cases e : j / 8 = a
  · rw [if_pos e]
    have : j % 8 = 0 ∨ j % 8 = 1 ∨ j % 8 = 2 ∨ j % 8 = 3 ∨ j % 8 = 4 ∨ j % 8 = 5 ∨ j % 8 = 6 ∨ j % 8 = 7 := by omega
    rcases this with q | q | q | q | q | q | q | q
    all_goals (rw [q]; (first | rw [if_pos (by omega)] | skip))
    all_goals (repeat rw [if_neg (by omega)])
    all_goals (first | rfl | rw [if_pos (by omega)])
  · rw [if_neg e]
    repeat rw [if_neg (by omega)]

theorem grown_trans {a b c : World} {r : Option Nat} (h : a.grownBy b r) (k : b.grownBy c r) : a.grownBy c r :=
  ⟨k.os.trans h.os, k.tape.trans h.tape, k.output.trans h.output, Nat.le_trans h.size k.size, fun i hi hr => (k.block i (Nat.lt_of_lt_of_le hi h.size) hr).trans (h.block i hi hr)⟩
theorem grown_set8 (w : World) (s p0 p1 p2 p3 p4 p5 p6 p7 : Nat) (v0 v1 v2 v3 v4 v5 v6 v7 : Value) : w.grownBy ((((((((w.setCell ⟨s, p0, none⟩ v0).setCell ⟨s, p1, none⟩ v1).setCell ⟨s, p2, none⟩ v2).setCell ⟨s, p3, none⟩ v3).setCell
    ⟨s, p4, none⟩ v4).setCell ⟨s, p5, none⟩ v5).setCell ⟨s, p6, none⟩ v6).setCell ⟨s, p7, none⟩ v7) (some s) :=
  grown_trans (grown_trans (grown_trans (grown_trans (grown_trans (grown_trans (grown_trans (grown_set _ _ _ _) (grown_set _ _ _ _)) (grown_set _ _ _ _)) (grown_set _ _ _ _)) (grown_set _ _ _ _)) (grown_set _ _ _ _)) (grown_set _ _ _ _)) (grown_set _ _ _ _)
theorem grown_then {a b : World} {r : Option Nat} (h : a.grownBy b r) : a.grownBy b.drew r := ⟨h.os, h.tape, h.output, h.size, h.block⟩
theorem Mem.drewN {B : Nat} {w : World} {b s n : Nat} {f : Nat → Nat} (h : Mem B w b s n f) (m : Nat) : Mem B (w.drewN m) b s n f := ⟨h.hb, h.hs, h.ne, h.ptr, h.row⟩
theorem Mem.drew {B : Nat} {w : World} {b s n : Nat} {f : Nat → Nat} (h : Mem B w b s n f) : Mem B w.drew b s n f := ⟨h.hb, h.hs, h.ne, h.ptr, h.row⟩

end Go.Proofs.Yteoblaopbhdneaa
