/- The document's world of spaces: how it lies; Find. -/
import Derived.Test.YtoimmapdkapheaaFRow
import Derived.Test.YtoimmapdkapheaaZSep
import Derived.Test.YtoimmapdkapheaaZReg
import Derived.Test.YtoimmapdkapheaaZRow4
import Derived.Test.YtoimmapdkapheaaZMap2
namespace Go.Proofs.Ytoimmapdkapheaa
set_option maxRecDepth 4000
open Go.RowKit

def spT (x : SpV × Sp) : Th := (Th.row rAPg x.1.vp (pagesA x.2.f)).and (Th.row rW8 x.1.vw (wordsA x.2.wd))
def spTs (T : Sps) : List Th := T.map spT
def heads (T : Sps) : List SpV := T.map (·.1)
def FmX (q : Nat) (v : Value) (T : Sps) : Th := (Th.box q 29 #[v]).and ((Th.row rSp v (heads T)).and (Th.all (spTs T)))
structure FmOk (T : Sps) (A : Wd) : Prop where
  eq : lkT T = A
  ok : A.ok
  nod : nodT T
/-- A world of spaces of the document's. -/
def FmT (q : Nat) (A : Wd) : Th := Th.ex fun d : Value × Sps => Th.when (FmOk d.2 A) (FmX q d.1 d.2)
theorem FmX.box {F : Nat → Prop} {w : World} {q : Nat} {v : Value} {T : Sps} (h : (FmX q v T).In F w) : Laid w q 29 #[v] := by
  obtain ⟨_, _, _, _, h1, _⟩ := h
  exact h1.2
theorem FmX.row {F : Nat → Prop} {w : World} {q : Nat} {v : Value} {T : Sps} (h : (FmX q v T).In F w) : Row rSp 0 w v (heads T) := by
  obtain ⟨_, _, _, _, _, _, _, _, _, h1, _⟩ := h
  exact h1.2
theorem heads_len (T : Sps) : (heads T).length = T.length := by simp [heads]
theorem heads_get (T : Sps) {i : Nat} (hi : i < T.length) : (heads T).getD i SpV.zero = (T.getD i zT).1 := by
  unfold heads
  rw [List.getD_eq_getElem?_getD, List.getD_eq_getElem?_getD, List.getElem?_map, List.getElem?_eq_getElem hi]
  rfl
theorem nod_tail {x : SpV × Sp} {T : Sps} (h : nodT (x :: T)) : nodT T := fun a b ha hb e => by
  have := h (a + 1) (b + 1) (by simpa using ha) (by simpa using hb) (by simpa using e)
  omega
theorem nod_pw : ∀ {T : Sps}, nodT T → (T.map fun x => x.1.n).Nodup
  | [], _ => List.nodup_nil
  | x :: T, h => by
    rw [List.map_cons, List.nodup_cons]
    refine ⟨fun hm => ?_, nod_pw (nod_tail h)⟩
    obtain ⟨y, hy, e⟩ := List.mem_map.1 hm
    obtain ⟨i, hi, rfl⟩ := List.mem_iff_getElem.1 hy
    have := h 0 (i + 1) (by simp) (by simpa using hi) (by simp [hi, e])
    omega
theorem lk_mem : ∀ {T : Sps} {n : Int} {s : Sp}, lkT T n = some s → ∃ i, i < T.length ∧ (T.getD i zT).1.n = n ∧ (T.getD i zT).2 = s
  | [], n, s, h => by cases h
  | x :: T, n, s, h => by
    rw [lkT] at h
    by_cases c : x.1.n = n
    · rw [if_pos c] at h
      cases h
      exact ⟨0, by simp, by simpa using c, by simp⟩
    · rw [if_neg c] at h
      obtain ⟨i, h1, h2, h3⟩ := lk_mem h
      exact ⟨i + 1, by simpa using h1, by simpa using h2, by simpa using h3⟩
theorem FmOk.few {T : Sps} {A : Wd} (h : FmOk T A) : T.length ≤ 255 := by
  have := few_keys 255 (T.map fun x => x.1.n) (nod_pw h.nod) fun k hk => by
    obtain ⟨y, hy, rfl⟩ := List.mem_map.1 hk
    obtain ⟨i, hi, rfl⟩ := List.mem_iff_getElem.1 hy
    have e := lk_at T h.nod i hi
    rw [h.eq] at e
    have := (h.ok _ _ e).1
    simpa [okN, hi] using this
  simpa using this
section
variable {F : Nat → Prop} {w : World} {q : Nat} {v : Value} {T : Sps} {n : Int}
set_option maxRecDepth 100000 in
set_option maxHeartbeats 2000000 in
theorem rfind_yes (hb : Laid w q 29 #[v]) (hr : Row rSp 0 w v (heads T)) (hl : T.length ≤ 255) (hd : nodT T) {i : Nat} (hi : i < T.length) (hn : (T.getD i zT).1.n = n) :
    Calls Try.prog 34 #[.pointer (some ⟨q, 0, none⟩), .int .i64 n] w fun e w' => e = .returned (.int .i64 i) ∧ w' = w := by
  obtain ⟨ao, c, rfl⟩ := hr.form
  have HAT : Hid (∀ k, k < T.length → ∃ g, ao = some ⟨g, 0, none⟩ ∧ w.cell? ⟨g, k * 3, none⟩ = some (.int .i64 (T.getD k zT).1.n)) := fun k hk => by
    obtain ⟨g, rfl, -, -, -, -, -, hat⟩ := hr.at (show k < (heads T).length by rw [heads_len]; exact hk)
    refine ⟨g, rfl, ?_⟩
    have h3 := (rSp.at hat).1
    rwa [show (heads T).getD k rSp.zero = (T.getD k zT).1 from heads_get T hk] at h3
  rw [heads_len] at *
  have c0 : w.cell? ⟨q, 0, none⟩ = some (.slice ao T.length c) := by rw [hb.cell]; rfl
  have HNE : Hid (∀ k, k < i → (T.getD k zT).1.n ≠ n) := fun k hk e => by
    have := hd k i (by omega) hi (by rw [e, hn])
    omega
  have HN : Hid ((T.getD i zT).1.n = n) := hn
  have hl' : T.length ≤ 9223372036854775807 := by omega
  clear hb hr hd hn hl
  go_enter Try.func34, Try.ntmps34
  go_wp2
  go_loopw [5] (fun iv W => W = w ∧ ∃ k : Nat, k ≤ i ∧ iv = .int .i64 k) (fun iv _ => i + 1 - (intOf iv).toNat)
  case atStart => exact ⟨rfl, 0, Nat.zero_le _, rfl⟩
  case round =>
    obtain ⟨rfl, k, hk, rfl⟩ := hrel
    have hkl : (k : Int) < (T.length : Int) := by omega
    obtain ⟨g, rfl, c1⟩ := HAT.out k (by omega)
    by_cases e : k = i
    · subst e
      rw [HN.out] at c1
      go_wp2
      go_ret
      exact ⟨rfl, rfl⟩
    · have hne := HNE.out k (by omega)
      generalize (T.getD k zT).1.n = x at *
      go_wp2
      go_roundw
      case rel => exact ⟨trivial, k + 1, by omega, by go_num⟩
      case measure => simp only [intOf]; omega
set_option maxRecDepth 100000 in
set_option maxHeartbeats 2000000 in
theorem rfind_no (hb : Laid w q 29 #[v]) (hr : Row rSp 0 w v (heads T)) (hl : T.length ≤ 255) (hn : lkT T n = none) :
    Calls Try.prog 34 #[.pointer (some ⟨q, 0, none⟩), .int .i64 n] w fun e w' => e = .returned (.int .i64 (-1)) ∧ w' = w := by
  obtain ⟨ao, c, rfl⟩ := hr.form
  have HAT : Hid (∀ k, k < T.length → ∃ g, ao = some ⟨g, 0, none⟩ ∧ w.cell? ⟨g, k * 3, none⟩ = some (.int .i64 (T.getD k zT).1.n)) := fun k hk => by
    obtain ⟨g, rfl, -, -, -, -, -, hat⟩ := hr.at (show k < (heads T).length by rw [heads_len]; exact hk)
    refine ⟨g, rfl, ?_⟩
    have h3 := (rSp.at hat).1
    rwa [show (heads T).getD k rSp.zero = (T.getD k zT).1 from heads_get T hk] at h3
  rw [heads_len] at *
  have c0 : w.cell? ⟨q, 0, none⟩ = some (.slice ao T.length c) := by rw [hb.cell]; rfl
  have HNE : Hid (∀ k, k < T.length → (T.getD k zT).1.n ≠ n) := (lk_none T n).1 hn
  have hl' : T.length ≤ 9223372036854775807 := by omega
  clear hb hr hn hl
  go_enter Try.func34, Try.ntmps34
  go_wp2
  go_loopw [5] (fun iv W => W = w ∧ ∃ k : Nat, k ≤ T.length ∧ iv = .int .i64 k) (fun iv _ => T.length - (intOf iv).toNat)
  case atStart => exact ⟨rfl, 0, Nat.zero_le _, rfl⟩
  case round =>
    obtain ⟨rfl, k, hk, rfl⟩ := hrel
    by_cases e : k < T.length
    · have hkl : (k : Int) < (T.length : Int) := by omega
      obtain ⟨g, rfl, c1⟩ := HAT.out k e
      have hne := HNE.out k e
      generalize (T.getD k zT).1.n = x at *
      go_wp2
      go_roundw
      case rel => exact ⟨trivial, k + 1, by omega, by go_num⟩
      case measure => simp only [intOf]; omega
    · obtain rfl : k = T.length := by omega
      go_wp2
      go_ret
      exact ⟨rfl, rfl⟩
end
end Go.Proofs.Ytoimmapdkapheaa
