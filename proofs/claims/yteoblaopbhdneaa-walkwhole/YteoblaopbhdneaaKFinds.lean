/- WalkFinds: the walk. -/
import Derived.Test.YteoblaopbhdneaaKEq
import Derived.Test.YteoblaopbhdneaaKLay
namespace Go.Proofs.Yteoblaopbhdneaa
open Go.RowKit

theorem pageB_no {p : Int} (h : p < 0 ∨ 4095 < p) : pageB p = false := by unfold pageB; rw [decide_eq_false_iff_not]; omega
theorem okF_no {n : Nat} {a : Int} (h : a < 0 ∨ (n : Int) ≤ a) : okF n a = false := by unfold okF; rw [decide_eq_false_iff_not]; omega

set_option maxRecDepth 100000 in
set_option maxHeartbeats 4000000 in
theorem walk_walkFinds (x : Int) (ao : Option Addr) (len cap : Nat) (D : Nat → Wrd) (root page : Int) (w : World) (hx : -9223372036854775808 ≤ x ∧ x ≤ 9223372036854775807) (_ : len ≤ maxLen) (hL : Lst Wrd.cells Wrd.ok 3 w ao len D)
    (_hr : -9223372036854775808 ≤ root ∧ root ≤ 9223372036854775807) (_hp : -9223372036854775808 ≤ page ∧ page ≤ 9223372036854775807) :
    Calls Try.prog 4 #[.int .i64 x, .slice ao len cap, .int .i64 root, .int .i64 page] w fun e w' => e = .returned (.bool true) ∧ Below w.heap.size w w' := by
  have hq := eq_err 1
  go_enter Try.func4, Try.ntmps4
  go_wp2_with fail
  refine (up_any _).mono ?_
  rintro e w1 ⟨rfl, L1⟩
  have hL1 := hL.below L1
  clear hL
  go_wp2_with fail
  refine (lay_any x ao len cap D _ hL1 hx).mono ?_
  rintro e w2 ⟨n, b, s, qr, cr, R, f, rfl, n1, n2, M2, F2, hf, hb⟩
  have L2 := below_call' L1 hb
  replace M2 := M2.base L1.size
  replace F2 := F2.base L1.size
  clear hb L1 hL1
  by_cases h : (0 ≤ root ∧ root < n) ∧ (0 ≤ page ∧ page ≤ 4095)
  · obtain ⟨⟨a1, a2⟩, b1, b2⟩ := h
    obtain ⟨r, rfl⟩ := Int.eq_ofNat_of_zero_le a1
    obtain ⟨p, rfl⟩ := Int.eq_ofNat_of_zero_le b1
    have hW := walk_yes M2 hf r p (by omega) (by omega)
    have t1 : ¬ ((n : Int) ≤ (r : Int)) := by omega
    have t2 : ¬ (4095 < (p : Int)) := by omega
    obtain ⟨y, e, v, hy, hy', hcode⟩ : ∃ (y : Fnd) (e : Value) (v : Int), ansF (walkF n f r p) = .tuple #[fv y, e] ∧ ansR (walkF n f r p) = .tuple #[fv y, .int .i64 v] ∧ ∀ w, Calls Try.prog 15 #[e] w fun e w' => e = .returned (.int .i64 v) ∧ w' = w := by
      cases walkF n f r p
      · exact ⟨_, _, 2, rfl, rfl, fun w => code_any 2 w (by omega) (by omega)⟩
      · exact ⟨_, _, 0, rfl, rfl, fun w => code_nil w⟩
    have hR := fun W (F : Ref w.heap.size W qr n R f) => refWalk_any F cr hf r p (by omega)
    rw [hy] at hW
    rw [hy'] at hR
    clear hy hy' hf
    have he := eql_fnd y y
    rw [eqF_self] at he
    unfold fv at hW hR he
    go_wp2_with fail
    refine hW.mono ?_
    rintro e w3 ⟨rfl, hb⟩
    have F3 := F2.below hb
    have L3 := below_call' L2 hb
    clear hb M2 F2 L2 hW
    go_wp2_with fail
    have X4 : Laid (w3.alloc (.cells (fcells y) 37)) w3.heap.size 37 (fcells y) := Laid.new w3 _ _
    unfold fcells at X4
    refine (walk_nil _ _ _).mono ?_
    rintro e w4 ⟨rfl, hb⟩
    replace X4 := X4.below hb
    have F4 := (F3.below ((Below.refl _ _).alloc (Nat.le_refl _) _)).below hb
    have L4 := below_call' (L3.alloc L3.size _) hb
    clear hb F3 L3
    unfold fv nilF
    go_wp2_with fail
    have F5 := F4.below ((Below.refl _ _).alloc (Nat.le_refl _) (.cells zeroF 37))
    have X5 := X4.old (.cells zeroF 37)
    have L5 := L4.alloc L4.size (.cells zeroF 37)
    unfold zeroF at F5 X5 L5
    refine (hR _ F5).mono ?_
    rintro e w5 ⟨rfl, hb⟩
    have X6 : Laid w5 w3.heap.size 37 (fcells y) := X5.below hb
    have L6 := below_call' L5 hb
    have hz := X6.lt
    obtain ⟨x0, x1, x2, x3, x4, x5, x6, x7, x8, x9, x10⟩ := X6.found
    have ka := fun o v => cell_alloc_old hz o v
    clear hb X4 X5 X6 F4 F5 L4 L5 hR
    go_wp2_with (go_at_call 15; refine (hcode _).mono ?_; rintro e w6 ⟨rfl, hw⟩; obtain rfl := hw.symm; clear hw)
    go_ret
    exact ⟨rfl, L6.alloc L6.size _⟩
  · have hW := walk_no M2 root page (by
      by_cases hr : 0 ≤ root ∧ root < n
      · exact Or.inr (pageB_no (by omega))
      · exact Or.inl (okF_no (by omega)))
    have hc : root < 0 ∨ (¬ root < 0 ∧ (n : Int) ≤ root) ∨ (¬ root < 0 ∧ ¬ (n : Int) ≤ root ∧ page < 0) ∨ (¬ root < 0 ∧ ¬ (n : Int) ≤ root ∧ ¬ page < 0 ∧ 4095 < page) := by omega
    have he := eql_fnd nilF nilF
    rw [eqF_self] at he
    unfold fv nilF at hW he
    clear h F2 M2 hf
    rcases hc with h1 | ⟨h1, h2⟩ | ⟨h1, h2, h3⟩ | ⟨h1, h2, h3, h4⟩
    all_goals
      go_wp2_with fail
      refine hW.mono ?_
      rintro e w3 ⟨rfl, hb⟩
      have L3 := below_call' L2 hb
      clear hb L2 hW
      go_wp2_with fail
      have X4 : Laid (w3.alloc (.cells zeroF 37)) w3.heap.size 37 zeroF := Laid.new w3 _ _
      unfold zeroF at X4
      refine (walk_nil _ _ _).mono ?_
      rintro e w4 ⟨rfl, hb⟩
      replace X4 : Laid w4 w3.heap.size 37 zeroF := X4.below hb
      have L4 := below_call' (L3.alloc L3.size _) hb
      obtain ⟨x0, x1, x2, x3, x4, x5, x6, x7, x8, x9, x10, -⟩ := X4.zeros
      have hz := X4.lt
      have ka := fun o v => cell_alloc_old hz o v
      clear hb L3 X4
      unfold fv nilF
      go_wp2
      go_ret
      exact ⟨rfl, L4.alloc L4.size _⟩
end Go.Proofs.Yteoblaopbhdneaa
