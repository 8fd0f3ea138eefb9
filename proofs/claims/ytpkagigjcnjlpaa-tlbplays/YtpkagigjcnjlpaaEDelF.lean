/- slices.IndexFunc, DeleteFunc over entries. -/
import Derived.Test.YtpkagigjcnjlpaaEDel
import Derived.Lib.Walk
import Derived.Shelf.RegionOpenPlain
namespace Go.Proofs.Ytpkagigjcnjlpaa
open Go.RowKit

/-- What is asked of a function value that lets entries go: in every world that Inv speaks of. -/
def Goes (f : Nat) (lb : Array Value) (p : Ent → Bool) (l : List Ent) (Inv : World → Prop) : Prop :=
  (∀ args w, (callFunc f args).run Try.prog w = .ok (.enter f args) w) ∧ ∀ W, Inv W → ∀ x, x ∈ l → Calls Try.prog f (#[ev x] ++ lb) W fun e w' => e = .returned (.bool (p x)) ∧ Below W.heap.size W w'
/-- What such a call may turn: one row. -/
def Stable (g : Nat) (Inv : World → Prop) : Prop := ∀ W W', Inv W → W.grownBy W' (some g) → Inv W'

def idxP (p : Ent → Bool) : List Ent → Nat → Int
  | [], _ => -1
  | x :: r, i => if p x then (i : Int) else idxP p r (i + 1)
theorem idxP_spec (p : Ent → Bool) : ∀ (l : List Ent) (i : Nat), (idxP p l i = -1 ∧ ∀ x ∈ l, p x = false) ∨ ∃ k, k < l.length ∧ idxP p l i = ((i + k : Nat) : Int) ∧ p (l.getD k Ent.zero) = true ∧ ∀ x ∈ l.take k, p x = false
  | [], i => Or.inl ⟨rfl, by simp⟩
  | x :: r, i => by
    cases h : p x with
    | true => exact Or.inr ⟨0, by simp, by simp [idxP, h], by simpa using h, by simp⟩
    | false =>
      rcases idxP_spec p r (i + 1) with ⟨e, ha⟩ | ⟨k, hk, e, ht, ha⟩
      · exact Or.inl ⟨by simp [idxP, h, e], by simpa [h] using ha⟩
      · refine Or.inr ⟨k + 1, by simpa using hk, ?_, by simpa using ht, by simpa [h] using ha⟩
        simp only [idxP, h]
        rw [if_neg (by simp), e]
        congr 1
        omega

theorem mem_getD (l : List Ent) (k : Nat) (h : k < l.length) : l.getD k Ent.zero ∈ l := by
  rw [List.getD_eq_getElem?_getD, List.getElem?_eq_getElem h]
  simp
theorem take_snoc (l : List Ent) (k : Nat) (h : k < l.length) : l.take (k + 1) = l.take k ++ [l.getD k Ent.zero] := by
  rw [List.take_add_one, List.getD_eq_getElem?_getD, List.getElem?_eq_getElem h]
  rfl
theorem idxP_hit (p : Ent → Bool) : ∀ (l : List Ent) (i k : Nat), k < l.length → p (l.getD k Ent.zero) = true → (∀ x ∈ l.take k, p x = false) → idxP p l i = ((i + k : Nat) : Int)
  | [], _, k, hk, _, _ => by simp at hk
  | x :: r, i, 0, _, h, _ => by
    have : p x = true := by simpa using h
    simp [idxP, this]
  | x :: r, i, k + 1, hk, h, ha => by
    have hx : p x = false := ha x (by simp)
    simp only [idxP, hx]
    rw [if_neg (by simp), idxP_hit p r (i + 1) k (by simpa using hk) (by simpa using h) (fun y hy => ha y (by simp [hy]))]
    congr 1
    omega
theorem idxP_miss (p : Ent → Bool) : ∀ (l : List Ent) (i : Nat), (∀ x ∈ l, p x = false) → idxP p l i = -1
  | [], _, _ => rfl
  | x :: r, i, h => by
    have hx : p x = false := h x (by simp)
    simp only [idxP, hx]
    rw [if_neg (by simp)]
    exact idxP_miss p r (i + 1) (fun y hy => h y (by simp [hy]))

set_option maxRecDepth 100000 in
set_option maxHeartbeats 4000000 in
theorem indexFunc_any {B : Nat} {w : World} {v : Value} {l : List Ent} (hown : Own B w v l) (h64 : l.length ≤ 64) (f : Nat) (lb : Array Value) (p : Ent → Bool) (Inv : World → Prop) (hI : Inv w) (hS : ∀ W W', Inv W → Below W.heap.size W W' → Inv W') (hG : Goes f lb p l Inv) :
    Calls Try.prog 47 #[v, .func (.func f) #[] lb] w fun e w' => e = .returned (.int .i64 (idxP p l 0)) ∧ Below w.heap.size w w' := by
  obtain ⟨eg, hG⟩ := hG
  rcases hown.cases' with ⟨rfl, rfl⟩ | ⟨g, c, cur, rfl, hB, hg0, hg, hlc, hcm, hs, hh⟩
  · go_enter Try.func47, Try.ntmps47
    go_wp2_with fail
    go_loopw [5, 8] (fun _ i W => i = .int .i64 0 ∧ W = w) (fun _ _ _ => 0)
    case atStart => exact ⟨rfl, rfl⟩
    case round =>
      obtain ⟨rfl, rfl⟩ := hrel
      go_wp2
      go_ret
      exact ⟨rfl, Below.refl _ _⟩
  · have hcm' : c ≤ 9223372036854775807 := by unfold maxLen at hcm; omega
    have HG : Hid _ := hG
    have HH : Hid _ := hh
    clear hG hh hown
    go_enter Try.func47, Try.ntmps47
    go_wp2_with fail
    go_loopw [5, 8] (fun _ i W => ∃ k : Nat, k ≤ l.length ∧ i = .int .i64 k ∧ Hid (∀ x ∈ l.take k, p x = false) ∧ Hid (Inv W) ∧ Hid (Below w.heap.size w W)) (fun _ i _ => l.length - (intOf i).toNat)
    case atStart => exact ⟨0, by omega, rfl, by simp [Hid], hI, Below.refl _ _⟩
    case round =>
      obtain ⟨k, hk, rfl, hno, hIv, L⟩ := hrel
      by_cases hlt : k < l.length
      · have hltz : (k : Int) < (l.length : Int) := by omega
        obtain ⟨c0, c1, c2, c3, c4, c5⟩ := head_cells (w := wr) ((L.out.block g hg0).trans hg) (HH.out k hlt)
        have hcall := HG.out wr hIv.out _ (mem_getD l k hlt)
        have hhit := idxP_hit p l 0 k hlt
        have htk := take_snoc l k hlt
        generalize l.getD k Ent.zero = x at *
        have HT : Hid _ := htk
        have HX : Hid _ := hhit
        clear htk hhit hI
        cases hp : p x with
        | true =>
          rw [hp] at hcall
          have HP : Hid _ := hp
          clear hp
          unfold ev at hcall
          go_wp2_with (go_at_fn f; refine hcall.mono ?_; rintro e w1 ⟨rfl, hb⟩)
          go_ret
          refine ⟨ret_int ?_, below_call L.out L.out.size hb⟩
          rw [HX.out HP.out hno.out]
          simp
        | false =>
          rw [hp] at hcall
          have HP : Hid _ := hp
          clear hp
          unfold ev at hcall
          go_wp2_with (go_at_fn f; refine hcall.mono ?_; rintro e w1 ⟨rfl, hb⟩)
          go_roundw
          case rel => exact ⟨k + 1, by omega, by go_num, by
            intro y hy
            rw [HT.out] at hy
            rcases List.mem_append.1 hy with h | h
            · exact hno.out y h
            · simp at h
              rw [h]
              exact HP.out, hS _ _ hIv.out hb, below_call L.out L.out.size hb⟩
          case measure => simp [intOf]; omega
      · obtain rfl : k = l.length := by omega
        have hltz : ¬ (l.length : Int) < (l.length : Int) := by omega
        go_wp2
        go_ret
        refine ⟨ret_int ?_, L.out⟩
        rw [idxP_miss p l 0 (by simpa [Hid] using hno.out)]
end Go.Proofs.Ytpkagigjcnjlpaa
