/- Errors' codes, lists that are the same, rows by their places, the document's Room. -/
import Derived.Test.YtoimmapdkapheaaATurn
import Derived.Test.YtoimmapdkapheaaAMay
namespace Go.Proofs.Ytoimmapdkapheaa
set_option maxRecDepth 4000
open Go.RowKit

def ofF {α : Type} (n : Nat) (f : Nat → α) : List α := (List.range n).map f
theorem ofF_len {α : Type} (n : Nat) (f : Nat → α) : (ofF n f).length = n := by simp [ofF]
theorem ofF_get {α : Type} (n : Nat) (f : Nat → α) (z : α) {x : Nat} (h : x < n) : (ofF n f).getD x z = f x := by
  rw [List.getD_eq_getElem?_getD]
  unfold ofF
  rw [List.getElem?_map, List.getElem?_range h]
  rfl
theorem ofF_set {α : Type} (n : Nat) (f : Nat → α) (i : Nat) (a : α) : (ofF n f).set i a = ofF n (fun x => if x = i then a else f x) := by
  apply List.ext_getElem?
  intro x
  unfold ofF
  by_cases hx : x < n
  · by_cases hxi : i = x
    · subst hxi
      rw [List.getElem?_set_self (by simpa using hx), List.getElem?_map, List.getElem?_range hx, Option.map_some, if_pos rfl]
    · rw [List.getElem?_set_ne hxi, List.getElem?_map, List.getElem?_map, List.getElem?_range hx, Option.map_some, Option.map_some, if_neg (Ne.symm hxi)]
  · rw [List.getElem?_eq_none (by simp; omega), List.getElem?_eq_none (by simp; omega)]
theorem ofF_congr {α : Type} {n : Nat} {f g : Nat → α} (h : ∀ x, x < n → f x = g x) : ofF n f = ofF n g := by
  unfold ofF
  apply List.map_congr_left
  intro x hx
  exact h x (by simpa using hx)

/-- '==' between two errors that are Codes. -/
theorem eq_code (a b : Int) (w : World) : (binOp .eql 41 (.iface 48 (.int .i64 a)) (.iface 48 (.int .i64 b))).run Try.prog w = .ok (.bool (a == b)) w :=
  Lib.run_eql_iface_int (P := Try.prog) w (t := 41) (tx := 48) (k := .i64) a b Try.underlying41 (by kernel_rfl) Try.underlying48

set_option maxHeartbeats 400000 in
theorem code_nil (w : World) : Calls Try.prog 23 #[.nilIface] w fun e w' => e = .returned (.int .i64 0) ∧ w' = w := by
  go_enter Try.func23, Try.ntmps23
  go_wp2
  go_ret
  exact ⟨rfl, rfl⟩

set_option maxHeartbeats 400000 in
theorem code_any (c : Nat) (w : World) (h1 : 1 ≤ c) (h8 : c ≤ 8) : Calls Try.prog 23 #[.iface 48 (.int .i64 c)] w fun e w' => e = .returned (.int .i64 c) ∧ w' = w := by
  have hq := fun k : Nat => eq_code c k
  go_enter Try.func23, Try.ntmps23
  go_wp2
  go_loop [3] (fun i => ∃ k : Nat, 1 ≤ k ∧ k ≤ c ∧ i = .int .i64 k) (fun i => 9 - (intOf i).toNat)
  case atStart => exact ⟨1, by omega, by omega, rfl⟩
  case round =>
    obtain ⟨k, k1, k2, rfl⟩ := hrel
    have hk8 : (k : Int) ≤ 8 := by omega
    by_cases e : k = c
    · subst e
      have hqk := hq k
      rw [beq_self_eq_true] at hqk
      clear hq
      go_wp2
      go_ret
      exact ⟨rfl, rfl⟩
    · have hqk := hq k
      rw [show ((c : Int) == (k : Int)) = false by simp; omega] at hqk
      clear hq
      go_wp2
      go_round
      case rel => exact ⟨k + 1, by omega, by omega, by go_num⟩
      case measure => simp [intOf]; omega

set_option maxRecDepth 100000 in
set_option maxHeartbeats 2000000 in
theorem same_self {w : World} {a1 a2 : Option Addr} {c1 c2 : Nat} {L : List AAr} (h1 : Sn rAAr w a1 L) (h2 : Sn rAAr w a2 L) (hm : L.length ≤ maxLen) :
    Calls Try.prog 22 #[.slice a1 L.length c1, .slice a2 L.length c2] w fun e w' => e = .returned (.bool true) ∧ Below w.heap.size w w' := by
  have hm' : L.length ≤ 9223372036854775807 := by unfold maxLen at hm; omega
  have H1 : Hid (Sn rAAr w a1 L) := h1
  have H2 : Hid (Sn rAAr w a2 L) := h2
  clear h1 h2 hm
  go_enter Try.func22, Try.ntmps22
  go_wp2
  go_loopw [5] (fun iv W => ∃ k : Nat, k ≤ L.length ∧ iv = .int .i64 k ∧ Hid (Below w.heap.size w W)) (fun iv _ => L.length - (intOf iv).toNat)
  case atStart => exact ⟨0, Nat.zero_le _, rfl, Below.refl _ _⟩
  case round =>
    obtain ⟨k, hk, rfl, HB⟩ := hrel
    by_cases hlt : k < L.length
    · have hltz : (k : Int) < (L.length : Int) := by omega
      obtain ⟨g, off, rfl, hg, c0, c1, c2, c3, c4⟩ := AAr.sn (H1.out.below HB.out) hlt
      obtain ⟨g', off', rfl, hg', d0, d1, d2, d3, d4⟩ := AAr.sn (H2.out.below HB.out) hlt
      have hne := fun w => neq_ar (L.getD k AAr.zero) (L.getD k AAr.zero) w
      rw [eqA_self] at hne
      generalize L.getD k AAr.zero = d at *
      unfold av at hne
      go_wp2
      go_quiet (fail)
      go_wp2
      go_roundw
      case rel => exact ⟨k + 1, by omega, by go_num, below_drewN HB.out _⟩
      case measure => simp only [intOf]; omega
    · obtain rfl : k = L.length := by omega
      go_wp2
      go_ret
      exact ⟨rfl, HB.out⟩

/-- A page as the document has it. -/
def pgA (t : Option Pg) : APg := match t with
  | none => ⟨false, false, false, false⟩
  | some t => ⟨true, t.1, t.2.1, t.2.2⟩
theorem pgA_inj {s t : Option Pg} (h : pgA s = pgA t) : s = t := by
  cases s <;> cases t
  · rfl
  · simp [pgA] at h
  · simp [pgA] at h
  · next s t =>
    obtain ⟨a, b, c⟩ := s
    obtain ⟨a', b', c'⟩ := t
    simpa [pgA] using h
theorem pgA_is (t : Option Pg) : (pgA t).is = t.isSome := by cases t <;> rfl
theorem ofF_const {α : Type} (n : Nat) (a : α) : ofF n (fun _ => a) = List.replicate n a := by
  apply List.ext_getElem?
  intro x
  unfold ofF
  by_cases hx : x < n
  · rw [List.getElem?_map, List.getElem?_range hx, List.getElem?_replicate, if_pos hx]
    rfl
  · rw [List.getElem?_eq_none (by simp; omega), List.getElem?_eq_none (by simp; omega)]
/-- The pages of f. -/
def pagesA (f : Int → Option Pg) : List APg := ofF 4096 (fun k => pgA (f k))
theorem pages_len (f : Int → Option Pg) : (pagesA f).length = 4096 := ofF_len _ _
theorem pages_get (f : Int → Option Pg) {k : Nat} (h : k < 4096) : (pagesA f).getD k APg.zero = pgA (f k) := ofF_get _ _ _ h
theorem pages_set (f : Int → Option Pg) (i : Nat) (t : Option Pg) : (pagesA f).set i (pgA t) = pagesA (fun p => if p = (i : Int) then t else f p) := by
  unfold pagesA
  rw [ofF_set]
  apply ofF_congr
  intro x _
  show _ = pgA (if (x : Int) = (i : Int) then t else f x)
  by_cases h : x = i
  · rw [if_pos h, if_pos (by omega)]
  · rw [if_neg h, if_neg (by omega)]
theorem pages_congr {f g : Int → Option Pg} (h : ∀ p : Int, 0 ≤ p → p < 4096 → f p = g p) : pagesA f = pagesA g := by
  unfold pagesA
  apply ofF_congr
  intro x hx
  rw [h x (by omega) (by omega)]
/-- The pages' cells, where they are a row. -/
theorem APg.sn {w : World} {ao : Option Addr} {f : Int → Option Pg} (h : Sn rAPg w ao (pagesA f)) {k : Nat} (hk : k < 4096) : ∃ g off, ao = some ⟨g, off, none⟩ ∧ g < w.heap.size ∧ w.cell? ⟨g, off + k * 4, none⟩ = some (.bool (pgA (f k)).is) ∧ w.cell? ⟨g, off + k * 4 + 1, none⟩ = some (.bool (pgA (f k)).w) ∧ w.cell? ⟨g, off + k * 4 + 2, none⟩ = some (.bool (pgA (f k)).x) ∧ w.cell? ⟨g, off + k * 4 + 3, none⟩ = some (.bool (pgA (f k)).h) := by
  obtain ⟨g, off, e, hg, hat⟩ := h.at (show k < _ by rw [pages_len]; exact hk)
  rw [show rAPg.zero = APg.zero from rfl, pages_get f hk] at hat
  exact ⟨g, off, e, hg, APg.at hat⟩

end Go.Proofs.Ytoimmapdkapheaa
