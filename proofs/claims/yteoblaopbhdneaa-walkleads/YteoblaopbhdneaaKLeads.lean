/- WalkLeads: the walk. -/
import Derived.Test.YteoblaopbhdneaaKHangs
import Derived.Test.YteoblaopbhdneaaKDesc
import Derived.Test.YteoblaopbhdneaaPBack
namespace Go.Proofs.Yteoblaopbhdneaa
open Go.RowKit

def tabD (k : Nat) : Dsc := ⟨1, k, false, false, false, false, 0⟩
/-- The words behind k of the tables. -/
def leadF (p : Nat) : Nat → Nat → Nat
  | 0 => fun _ => 0
  | k + 1 => upd (leadF p k) (k * 8 + dig k p) (wordD (tabD (k + 1)))

theorem tab_may (k : Nat) (hk : k ≤ 2) : mayD k (tabD (k + 1)) = true := by
  have : k = 0 ∨ k = 1 ∨ k = 2 := by omega
  rcases this with rfl | rfl | rfl <;> decide
theorem tab_says (l k : Nat) (hl : l ≤ 2) (hk : k < 512) : saysD l (wordD (tabD k)) = tabD k := says_word1 l k (by omega) hk
theorem tab_word (k : Nat) (hk : k < 512) : wordD (tabD k) < 18446744073709551616 := by
  rw [word1 _ rfl]
  show (k : Int).toNat * 4096 + 3 < _
  omega
theorem lead_words (p : Nat) : ∀ k, k ≤ 3 → Words 4 (leadF p k) := by
  intro k
  induction k with
  | zero => intro _; exact words_zero 4
  | succ k ih => intro hk; exact words_upd (ih (by omega)) _ _ (by have := tab_word (k + 1) (by omega); omega)
theorem lead_at (p : Nat) : ∀ k j, j < k → leadF p k (j * 8 + dig j p) = wordD (tabD (j + 1)) := by
  intro k
  induction k with
  | zero => intro j hj; omega
  | succ k ih =>
    intro j hj
    have h1 := dig_lt j p
    have h2 := dig_lt k p
    show upd (leadF p k) (k * 8 + dig k p) (wordD (tabD (k + 1))) (j * 8 + dig j p) = _
    unfold upd
    by_cases e : j = k
    · subst e; rw [if_pos rfl]
    · rw [if_neg (by omega)]
      exact ih j (by omega)

/-- Where the tables lead. -/
theorem lead_walk (p L : Nat) (d : Dsc) (hL : L = 2 ∨ L = 3) (hd : mayD L d = true) (h1 : d.kind ≠ 1) :
    walkF 4 (upd (leadF p L) (L * 8 + dig L p) (wordD d)) 0 p = some (endF d L L (dig L p) p) := by
  have hL3 : L ≤ 3 := by omega
  generalize hg : upd (leadF p L) (L * 8 + dig L p) (wordD d) = g
  have hend : g (L * 8 + dig L p) = wordD d := by rw [← hg]; unfold upd; rw [if_pos rfl]
  have hon : ∀ j, j < L → g (j * 8 + dig j p) = wordD (tabD (j + 1)) := by
    intro j hj
    have a := dig_lt j p
    have b := dig_lt L p
    rw [← hg]
    unfold upd
    rw [if_neg (by omega)]
    exact lead_at p L j hj
  have key : ∀ k l, l + k = 3 → l ≤ L → walkN 4 g p (k + 1) l = some (endF d L L (dig L p) p) := by
    intro k
    induction k with
    | zero =>
      intro l hl hle
      obtain rfl : l = L := by omega
      rw [walkN_end (l := l) (by omega) (by omega) (by rw [hend, says_word l d hd]; exact h1), hend, says_word l d hd]
    | succ k ih =>
      intro l hl hle
      by_cases e : l = L
      · subst e
        rw [walkN_end (l := l) (by omega) (by omega) (by rw [hend, says_word l d hd]; exact h1), hend, says_word l d hd]
      · have hw := hon l (by omega)
        have hs : saysD l (g (l * 8 + dig l p)) = tabD (l + 1) := by rw [hw]; exact tab_says l (l + 1) (by omega) (by omega)
        rw [walkN_on (l := l) (by omega) (by omega) (by rw [hs]; rfl), hs]
        exact ih (l + 1) (by omega) (by omega)
  exact key 3 0 (by omega) (by omega)

theorem may_frame {l : Int} {d : Dsc} (h : mayD l d = true) : 0 ≤ d.frame ∧ d.frame < 512 := by
  simp only [mayD, Bool.and_eq_true, decide_eq_true_eq] at h
  omega

set_option maxRecDepth 100000 in
set_option maxHeartbeats 4000000 in
theorem leads_of (x : Int) (p : Nat) (k0 fr so : Int) (wt ex sn fo : Bool) (block : Bool) (w : World) (hx : -9223372036854775808 ≤ x) (hx' : x ≤ 9223372036854775807) (hp4 : p < 4096)
    (hn : x < 0 ∧ (∃ y : Int, -(x + 1) = y ∧ 0 ≤ y ∧ y % 4096 = p) ∨ ¬ x < 0 ∧ x % 4096 = p) :
    Calls Try.prog 8 #[.int .i64 x, .agg #[.int .i64 k0, .int .i64 fr, .bool wt, .bool ex, .bool sn, .bool fo, .int .i64 so], .bool block] w fun e w' => e = .returned (.bool true) ∧ Below w.heap.size w w' := by
  rcases hn with ⟨hn0, y, hy, hy0, hn⟩ | ⟨hn0, hn⟩
  all_goals
    cases block
    · cases hm : mayD 3 ⟨3, fr, wt, ex, sn, fo, so⟩
      · have hE := fun w => encode_no 3 ⟨3, fr, wt, ex, sn, fo, so⟩ w hm
        unfold dv at hE
        simp only at hE
        go_enter Try.func8, Try.ntmps8
        go_wp2_with fail
        refine (up_any _).mono ?_
        rintro e w1 ⟨rfl, hb⟩
        have X1 := (Laid.new w 60 #[.int .i64 k0, .int .i64 fr, .bool wt, .bool ex, .bool sn, .bool fo, .int .i64 so]).below hb
        have L1 : Below w.heap.size w w1 := ((Below.refl _ _).alloc (Nat.le_refl _) _).trans (hb.mono (by simp))
        clear hb
        obtain ⟨c0, c1, c2, c3, c4, c5, c6⟩ : w1.cell? ⟨w.heap.size, 0, none⟩ = some (.int .i64 k0) ∧ w1.cell? ⟨w.heap.size, 1, none⟩ = some (.int .i64 fr) ∧ w1.cell? ⟨w.heap.size, 2, none⟩ = some (.bool wt) ∧ w1.cell? ⟨w.heap.size, 3, none⟩ = some (.bool ex) ∧ w1.cell? ⟨w.heap.size, 4, none⟩ = some (.bool sn) ∧ w1.cell? ⟨w.heap.size, 5, none⟩ = some (.bool fo) ∧ w1.cell? ⟨w.heap.size, 6, none⟩ = some (.int .i64 so) := ⟨X1.cell 0, X1.cell 1, X1.cell 2, X1.cell 3, X1.cell 4, X1.cell 5, X1.cell 6⟩
        have hz := X1.frozen
        go_wp2_with fail
        refine (hE _).mono ?_
        rintro e w2 ⟨rfl, hb⟩
        have L2 : Below w.heap.size w w2 := below_call' (L1.setCell (Nat.le_refl _) _) hb
        go_wp2
        go_ret
        exact ⟨rfl, L2⟩
      · have hE := fun w => encode_yes 3 ⟨3, fr, wt, ex, sn, fo, so⟩ w hm
        have hwk := lead_walk p 3 ⟨3, fr, wt, ex, sn, fo, so⟩ (by omega) hm (by simp)
        have hwl := wordD_lt hm
        obtain ⟨f0, f1⟩ := may_frame hm
        simp only at f0 f1
        generalize wordD ⟨3, fr, wt, ex, sn, fo, so⟩ = wd at *
        unfold dv at hE
        simp only at hE
        go_enter Try.func8, Try.ntmps8
        go_wp2_with fail
        refine (up_any _).mono ?_
        rintro e w1 ⟨rfl, hb⟩
        have X1 := (Laid.new w 60 #[.int .i64 k0, .int .i64 fr, .bool wt, .bool ex, .bool sn, .bool fo, .int .i64 so]).below hb
        have L1 : Below w.heap.size w w1 := ((Below.refl _ _).alloc (Nat.le_refl _) _).trans (hb.mono (by simp))
        clear hb
        obtain ⟨c0, c1, c2, c3, c4, c5, c6⟩ : w1.cell? ⟨w.heap.size, 0, none⟩ = some (.int .i64 k0) ∧ w1.cell? ⟨w.heap.size, 1, none⟩ = some (.int .i64 fr) ∧ w1.cell? ⟨w.heap.size, 2, none⟩ = some (.bool wt) ∧ w1.cell? ⟨w.heap.size, 3, none⟩ = some (.bool ex) ∧ w1.cell? ⟨w.heap.size, 4, none⟩ = some (.bool sn) ∧ w1.cell? ⟨w.heap.size, 5, none⟩ = some (.bool fo) ∧ w1.cell? ⟨w.heap.size, 6, none⟩ = some (.int .i64 so) := ⟨X1.cell 0, X1.cell 1, X1.cell 2, X1.cell 3, X1.cell 4, X1.cell 5, X1.cell 6⟩
        have hz := X1.frozen
        go_wp2_with fail
        refine (hE _).mono ?_
        rintro e w2 ⟨rfl, hb⟩
        have L2 : Below w.heap.size w w2 := below_call' (L1.setCell (Nat.le_refl _) _) hb
        have X2 : Laid w2 w.heap.size 60 #[.int .i64 3, .int .i64 fr, .bool wt, .bool ex, .bool sn, .bool fo, .int .i64 so] := Laid.below (X1.put 0 _) hb
        clear hb L1 X1 c0 c1 c2 c3 c4 c5 c6 hz hE
        go_wp2_with fail
        refine (new_yes 4 _ (by omega) (by omega)).mono ?_
        rintro e w3 ⟨b, s, rfl, M3, hb⟩
        have X3 := X2.below hb
        have L3 := below_call' L2 hb
        replace M3 := M3.base L2.size
        clear hb X2 L2
        go_wp2
        go_loopw [13] (fun i W => ∃ k : Nat, k ≤ 3 ∧ i = .int .i64 k ∧ Mem w.heap.size W b s 4 (leadF p k) ∧ Laid W w.heap.size 60 #[.int .i64 3, .int .i64 fr, .bool wt, .bool ex, .bool sn, .bool fo, .int .i64 so] ∧ Below w.heap.size w W) (fun i _ => 3 - (intOf i).toNat)
        case atStart => exact ⟨0, by omega, rfl, M3, X3, L3⟩
        case round =>
          obtain ⟨k, hk, rfl, M, X, L⟩ := hrel
          clear M3 X3 L3
          by_cases hlt : k < 3
          · have hP := fun w => place_yes k p w (by omega) hp4
            have hE := fun w => encode_yes k (tabD (k + 1)) w (tab_may k (by omega))
            have hS := fun {W : World} (M : Mem w.heap.size W b s 4 (leadF p k)) => store_mem M k (dig k p) (wordD (tabD (k + 1))) (by omega) (dig_lt k p)
            unfold dv tabD at hE
            simp only at hE
            rw [show ((k + 1 : Nat) : Int) = (k : Int) + 1 by omega] at hE
            have hS' : ∀ {W : World} (_ : Mem w.heap.size W b s 4 (leadF p k)), Calls Try.prog 19 #[.pointer (some ⟨b, 0, none⟩), .int .i64 k, .int .i64 (dig k p : Nat), .int .u64 (wordD ⟨1, (k : Int) + 1, false, false, false, false, 0⟩ : Nat)] W fun e w' => e = .returned .nilIface ∧ Mem w.heap.size w' b s 4 (leadF p (k + 1)) ∧ W.grownBy w' (some s) := fun {W} M => by
              have := hS M
              unfold tabD at this
              rw [show ((k + 1 : Nat) : Int) = (k : Int) + 1 by omega] at this
              exact this
            clear hS
            generalize wordD ⟨1, (k : Int) + 1, false, false, false, false, 0⟩ = tw at *
            go_wp2_with fail
            refine (hP _).mono ?_
            rintro e w5 ⟨rfl, dd, hw⟩
            have M5 : Mem w.heap.size w5 b s 4 (leadF p k) := by rw [hw]; exact M.drewN dd
            have X5 : Laid w5 w.heap.size 60 #[.int .i64 3, .int .i64 fr, .bool wt, .bool ex, .bool sn, .bool fo, .int .i64 so] := by rw [hw]; exact X
            have L5 : Below w.heap.size w w5 := by rw [hw]; exact below_drewN L dd
            clear hw M X L hP
            go_wp2_with fail
            refine (hE _).mono ?_
            rintro e w6 ⟨rfl, hb⟩
            have M6 := M5.below hb
            have X6 := X5.below hb
            have L6 := below_call' L5 hb
            clear hb M5 X5 L5 hE
            go_wp2_with fail
            refine (hS' M6).mono ?_
            rintro e w7 ⟨rfl, M7, G⟩
            have X7 := X6.of_words M6 (by decide) G
            have L7 := below_row L6 L6.size G M6.hs
            clear G M6 X6 L6 hS'
            go_wp2
            go_roundw
            case rel => exact ⟨k + 1, by omega, by go_num, M7, X7, L7⟩
            case measure => simp [intOf]; omega
          · obtain rfl : k = 3 := by omega
            have hP := fun w => place_yes 3 p w (by omega) hp4
            have hq8 := dig_lt 3 p
            have hwg : Words 4 (upd (leadF p 3) (3 * 8 + dig 3 p) wd) := words_upd (lead_words p 3 (by omega)) _ _ (by omega)
            generalize dig 3 p = q at *
            go_wp2_with fail
            refine (hP _).mono ?_
            rintro e w5 ⟨rfl, dd, hw⟩
            have M5 : Mem w.heap.size w5 b s 4 (leadF p 3) := by rw [hw]; exact M.drewN dd
            have X5 : Laid w5 w.heap.size 60 #[.int .i64 3, .int .i64 fr, .bool wt, .bool ex, .bool sn, .bool fo, .int .i64 so] := by rw [hw]; exact X
            have L5 : Below w.heap.size w w5 := by rw [hw]; exact below_drewN L dd
            clear hw M X L hP
            go_wp2_with fail
            refine (store_mem M5 3 q wd (by omega) hq8).mono ?_
            rintro e w6 ⟨rfl, M6, G⟩
            have X6 := X5.of_words M5 (by decide) G
            have L6 := below_row L5 L5.size G M5.hs
            clear G M5 X5 L5
            have hW := walk_yes M6 hwg 0 p (by omega) hp4
            rw [hwk] at hW
            clear hwk hwg
            go_wp2_with fail
            refine hW.mono ?_
            rintro e w7 ⟨rfl, hb⟩
            have X7 := X6.below hb
            have L7 := below_call' L6 hb
            clear hb M6 X6 L6 hW
            obtain ⟨c0, c1, c2, c3, c4, c5, -⟩ : w7.cell? ⟨w.heap.size, 0, none⟩ = some (.int .i64 3) ∧ w7.cell? ⟨w.heap.size, 1, none⟩ = some (.int .i64 fr) ∧ w7.cell? ⟨w.heap.size, 2, none⟩ = some (.bool wt) ∧ w7.cell? ⟨w.heap.size, 3, none⟩ = some (.bool ex) ∧ w7.cell? ⟨w.heap.size, 4, none⟩ = some (.bool sn) ∧ w7.cell? ⟨w.heap.size, 5, none⟩ = some (.bool fo) ∧ True := ⟨X7.cell 0, X7.cell 1, X7.cell 2, X7.cell 3, X7.cell 4, X7.cell 5, trivial⟩
            have hz := X7.lt
            have ka := fun o v => cell_alloc_old hz o v
            clear X7
            cases fo
            · have e : endF ⟨3, fr, wt, ex, sn, false, so⟩ 3 3 q p = ⟨3, (3 : Nat), (3 : Nat), q, fr, 0, p, fr, wt, ex, sn⟩ := rfl
              rw [e]
              clear e
              unfold ansF fv
              simp only
              go_wp2
              go_ret
              exact ⟨rfl, L7.alloc L7.size _⟩
            · have e : endF ⟨3, fr, wt, ex, sn, true, so⟩ 3 3 q p = ⟨3, (3 : Nat), (3 : Nat), q, fr, 2, (p / 4 * 4 : Nat), fr - (p % 4 : Nat), wt, ex, sn⟩ := rfl
              rw [e]
              clear e
              unfold ansF fv
              simp only
              go_wp2
              go_ret
              exact ⟨rfl, L7.alloc L7.size _⟩
    · cases hm : mayD 2 ⟨2, fr, wt, ex, sn, fo, so⟩
      · have hE := fun w => encode_no 2 ⟨2, fr, wt, ex, sn, fo, so⟩ w hm
        unfold dv at hE
        simp only at hE
        go_enter Try.func8, Try.ntmps8
        go_wp2_with fail
        refine (up_any _).mono ?_
        rintro e w1 ⟨rfl, hb⟩
        have X1 := (Laid.new w 60 #[.int .i64 k0, .int .i64 fr, .bool wt, .bool ex, .bool sn, .bool fo, .int .i64 so]).below hb
        have L1 : Below w.heap.size w w1 := ((Below.refl _ _).alloc (Nat.le_refl _) _).trans (hb.mono (by simp))
        clear hb
        obtain ⟨c0, c1, c2, c3, c4, c5, c6⟩ : w1.cell? ⟨w.heap.size, 0, none⟩ = some (.int .i64 k0) ∧ w1.cell? ⟨w.heap.size, 1, none⟩ = some (.int .i64 fr) ∧ w1.cell? ⟨w.heap.size, 2, none⟩ = some (.bool wt) ∧ w1.cell? ⟨w.heap.size, 3, none⟩ = some (.bool ex) ∧ w1.cell? ⟨w.heap.size, 4, none⟩ = some (.bool sn) ∧ w1.cell? ⟨w.heap.size, 5, none⟩ = some (.bool fo) ∧ w1.cell? ⟨w.heap.size, 6, none⟩ = some (.int .i64 so) := ⟨X1.cell 0, X1.cell 1, X1.cell 2, X1.cell 3, X1.cell 4, X1.cell 5, X1.cell 6⟩
        have hz := X1.frozen
        go_wp2_with fail
        refine (hE _).mono ?_
        rintro e w2 ⟨rfl, hb⟩
        have L2 : Below w.heap.size w w2 := below_call' ((L1.setCell (Nat.le_refl _) _).setCell (Nat.le_refl _) _) hb
        go_wp2
        go_ret
        exact ⟨rfl, L2⟩
      · have hE := fun w => encode_yes 2 ⟨2, fr, wt, ex, sn, fo, so⟩ w hm
        have hwk := lead_walk p 2 ⟨2, fr, wt, ex, sn, fo, so⟩ (by omega) hm (by simp)
        have hwl := wordD_lt hm
        obtain ⟨f0, f1⟩ := may_frame hm
        simp only at f0 f1
        generalize wordD ⟨2, fr, wt, ex, sn, fo, so⟩ = wd at *
        unfold dv at hE
        simp only at hE
        go_enter Try.func8, Try.ntmps8
        go_wp2_with fail
        refine (up_any _).mono ?_
        rintro e w1 ⟨rfl, hb⟩
        have X1 := (Laid.new w 60 #[.int .i64 k0, .int .i64 fr, .bool wt, .bool ex, .bool sn, .bool fo, .int .i64 so]).below hb
        have L1 : Below w.heap.size w w1 := ((Below.refl _ _).alloc (Nat.le_refl _) _).trans (hb.mono (by simp))
        clear hb
        obtain ⟨c0, c1, c2, c3, c4, c5, c6⟩ : w1.cell? ⟨w.heap.size, 0, none⟩ = some (.int .i64 k0) ∧ w1.cell? ⟨w.heap.size, 1, none⟩ = some (.int .i64 fr) ∧ w1.cell? ⟨w.heap.size, 2, none⟩ = some (.bool wt) ∧ w1.cell? ⟨w.heap.size, 3, none⟩ = some (.bool ex) ∧ w1.cell? ⟨w.heap.size, 4, none⟩ = some (.bool sn) ∧ w1.cell? ⟨w.heap.size, 5, none⟩ = some (.bool fo) ∧ w1.cell? ⟨w.heap.size, 6, none⟩ = some (.int .i64 so) := ⟨X1.cell 0, X1.cell 1, X1.cell 2, X1.cell 3, X1.cell 4, X1.cell 5, X1.cell 6⟩
        have hz := X1.frozen
        go_wp2_with fail
        refine (hE _).mono ?_
        rintro e w2 ⟨rfl, hb⟩
        have L2 : Below w.heap.size w w2 := below_call' ((L1.setCell (Nat.le_refl _) _).setCell (Nat.le_refl _) _) hb
        have X2 : Laid w2 w.heap.size 60 #[.int .i64 2, .int .i64 fr, .bool wt, .bool ex, .bool sn, .bool fo, .int .i64 so] := Laid.below ((X1.put 0 _).put 0 _) hb
        clear hb L1 X1 c0 c1 c2 c3 c4 c5 c6 hz hE
        go_wp2_with fail
        refine (new_yes 4 _ (by omega) (by omega)).mono ?_
        rintro e w3 ⟨b, s, rfl, M3, hb⟩
        have X3 := X2.below hb
        have L3 := below_call' L2 hb
        replace M3 := M3.base L2.size
        clear hb X2 L2
        go_wp2
        go_loopw [13] (fun i W => ∃ k : Nat, k ≤ 2 ∧ i = .int .i64 k ∧ Mem w.heap.size W b s 4 (leadF p k) ∧ Laid W w.heap.size 60 #[.int .i64 2, .int .i64 fr, .bool wt, .bool ex, .bool sn, .bool fo, .int .i64 so] ∧ Below w.heap.size w W) (fun i _ => 2 - (intOf i).toNat)
        case atStart => exact ⟨0, by omega, rfl, M3, X3, L3⟩
        case round =>
          obtain ⟨k, hk, rfl, M, X, L⟩ := hrel
          clear M3 X3 L3
          by_cases hlt : k < 2
          · have hP := fun w => place_yes k p w (by omega) hp4
            have hE := fun w => encode_yes k (tabD (k + 1)) w (tab_may k (by omega))
            have hS := fun {W : World} (M : Mem w.heap.size W b s 4 (leadF p k)) => store_mem M k (dig k p) (wordD (tabD (k + 1))) (by omega) (dig_lt k p)
            unfold dv tabD at hE
            simp only at hE
            rw [show ((k + 1 : Nat) : Int) = (k : Int) + 1 by omega] at hE
            have hS' : ∀ {W : World} (_ : Mem w.heap.size W b s 4 (leadF p k)), Calls Try.prog 19 #[.pointer (some ⟨b, 0, none⟩), .int .i64 k, .int .i64 (dig k p : Nat), .int .u64 (wordD ⟨1, (k : Int) + 1, false, false, false, false, 0⟩ : Nat)] W fun e w' => e = .returned .nilIface ∧ Mem w.heap.size w' b s 4 (leadF p (k + 1)) ∧ W.grownBy w' (some s) := fun {W} M => by
              have := hS M
              unfold tabD at this
              rw [show ((k + 1 : Nat) : Int) = (k : Int) + 1 by omega] at this
              exact this
            clear hS
            generalize wordD ⟨1, (k : Int) + 1, false, false, false, false, 0⟩ = tw at *
            go_wp2_with fail
            refine (hP _).mono ?_
            rintro e w5 ⟨rfl, dd, hw⟩
            have M5 : Mem w.heap.size w5 b s 4 (leadF p k) := by rw [hw]; exact M.drewN dd
            have X5 : Laid w5 w.heap.size 60 #[.int .i64 2, .int .i64 fr, .bool wt, .bool ex, .bool sn, .bool fo, .int .i64 so] := by rw [hw]; exact X
            have L5 : Below w.heap.size w w5 := by rw [hw]; exact below_drewN L dd
            clear hw M X L hP
            go_wp2_with fail
            refine (hE _).mono ?_
            rintro e w6 ⟨rfl, hb⟩
            have M6 := M5.below hb
            have X6 := X5.below hb
            have L6 := below_call' L5 hb
            clear hb M5 X5 L5 hE
            go_wp2_with fail
            refine (hS' M6).mono ?_
            rintro e w7 ⟨rfl, M7, G⟩
            have X7 := X6.of_words M6 (by decide) G
            have L7 := below_row L6 L6.size G M6.hs
            clear G M6 X6 L6 hS'
            go_wp2
            go_roundw
            case rel => exact ⟨k + 1, by omega, by go_num, M7, X7, L7⟩
            case measure => simp [intOf]; omega
          · obtain rfl : k = 2 := by omega
            have hP := fun w => place_yes 2 p w (by omega) hp4
            have hq8 := dig_lt 2 p
            have hwg : Words 4 (upd (leadF p 2) (2 * 8 + dig 2 p) wd) := words_upd (lead_words p 2 (by omega)) _ _ (by omega)
            generalize dig 2 p = q at *
            go_wp2_with fail
            refine (hP _).mono ?_
            rintro e w5 ⟨rfl, dd, hw⟩
            have M5 : Mem w.heap.size w5 b s 4 (leadF p 2) := by rw [hw]; exact M.drewN dd
            have X5 : Laid w5 w.heap.size 60 #[.int .i64 2, .int .i64 fr, .bool wt, .bool ex, .bool sn, .bool fo, .int .i64 so] := by rw [hw]; exact X
            have L5 : Below w.heap.size w w5 := by rw [hw]; exact below_drewN L dd
            clear hw M X L hP
            go_wp2_with fail
            refine (store_mem M5 2 q wd (by omega) hq8).mono ?_
            rintro e w6 ⟨rfl, M6, G⟩
            have X6 := X5.of_words M5 (by decide) G
            have L6 := below_row L5 L5.size G M5.hs
            clear G M5 X5 L5
            have hW := walk_yes M6 hwg 0 p (by omega) hp4
            rw [hwk] at hW
            clear hwk hwg
            go_wp2_with fail
            refine hW.mono ?_
            rintro e w7 ⟨rfl, hb⟩
            have X7 := X6.below hb
            have L7 := below_call' L6 hb
            clear hb M6 X6 L6 hW
            obtain ⟨c0, c1, c2, c3, c4, c5, -⟩ : w7.cell? ⟨w.heap.size, 0, none⟩ = some (.int .i64 2) ∧ w7.cell? ⟨w.heap.size, 1, none⟩ = some (.int .i64 fr) ∧ w7.cell? ⟨w.heap.size, 2, none⟩ = some (.bool wt) ∧ w7.cell? ⟨w.heap.size, 3, none⟩ = some (.bool ex) ∧ w7.cell? ⟨w.heap.size, 4, none⟩ = some (.bool sn) ∧ w7.cell? ⟨w.heap.size, 5, none⟩ = some (.bool fo) ∧ True := ⟨X7.cell 0, X7.cell 1, X7.cell 2, X7.cell 3, X7.cell 4, X7.cell 5, trivial⟩
            have hz := X7.lt
            have ka := fun o v => cell_alloc_old hz o v
            clear X7
            have e : endF ⟨2, fr, wt, ex, sn, fo, so⟩ 2 2 q p = ⟨2, (2 : Nat), (2 : Nat), q, fr + (p % 8 : Nat), 3, (p / 8 * 8 : Nat), fr, wt, ex, sn⟩ := rfl
            rw [e]
            clear e
            obtain ⟨p8, hp8⟩ : ∃ p8 : Nat, (p : Int) % 8 = p8 := ⟨p % 8, by omega⟩
            have hp8' : ((p % 8 : Nat) : Int) = p8 := by omega
            rw [hp8']
            have h8 : p8 < 8 := by omega
            clear hp8'
            unfold ansF fv
            simp only
            go_wp2
            go_ret
            exact ⟨rfl, L7.alloc L7.size _⟩

theorem walk_walkLeads (x : Int) (d : DescA) (block : Bool) (w : World) (hx : -9223372036854775808 ≤ x ∧ x ≤ 9223372036854775807) (_ : d.ok) :
    Calls Try.prog 8 #[.int .i64 x, .agg d.cells.toArray, .bool block] w fun e w' => e = .returned (.bool true) ∧ Below w.heap.size w w' := by
  obtain ⟨k, fr, wt, ex, sn, fo, so⟩ := d
  by_cases h : x < 0
  · exact leads_of x ((-(x + 1)) % 4096).toNat k fr so wt ex sn fo block w hx.1 hx.2 (by omega) (Or.inl ⟨h, _, rfl, by omega, by omega⟩)
  · exact leads_of x (x % 4096).toNat k fr so wt ex sn fo block w hx.1 hx.2 (by omega) (Or.inr ⟨h, by omega⟩)
end Go.Proofs.Yteoblaopbhdneaa
