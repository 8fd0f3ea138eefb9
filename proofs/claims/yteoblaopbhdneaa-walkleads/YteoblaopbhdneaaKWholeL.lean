/- WalkWhole: the walk. -/
import Derived.Test.YteoblaopbhdneaaKRow
import Derived.Test.YteoblaopbhdneaaKFinds
namespace Go.Proofs.Yteoblaopbhdneaa
open Go.RowKit

theorem len_gather (w : Nat → Option Fnd) : ∀ (p : Nat) (L : List Fnd), gather w p = some L → L.length ≤ p := by
  intro p
  induction p with
  | zero => intro L h; rw [gather] at h; cases h; exact Nat.le_refl _
  | succ p ih =>
    intro L h
    rw [gather] at h
    cases hg : gather w p with
    | none => rw [hg] at h; simp at h
    | some K =>
      have := ih K hg
      cases hx : w p with
      | none => rw [hg, hx] at h; simp at h
      | some x =>
        rw [hg, hx] at h
        simp only [Option.some.injEq] at h
        rw [← h]
        split
        · simp; omega
        · omega

set_option maxRecDepth 100000 in
set_option maxHeartbeats 4000000 in
theorem walk_walkWhole (x : Int) (ao : Option Addr) (len cap : Nat) (D : Nat → Wrd) (root : Int) (w : World) (hx : -9223372036854775808 ≤ x ∧ x ≤ 9223372036854775807) (_ : len ≤ maxLen) (hL : Lst Wrd.cells Wrd.ok 3 w ao len D)
    (_hr : -9223372036854775808 ≤ root ∧ root ≤ 9223372036854775807) :
    Calls Try.prog 5 #[.int .i64 x, .slice ao len cap, .int .i64 root] w fun e w' => e = .returned (.bool true) ∧ Below w.heap.size w w' := by
  have hq := eq_err 1
  go_enter Try.func5, Try.ntmps5
  go_wp2_with fail
  refine (up_any _).mono ?_
  rintro e w1 ⟨rfl, L1⟩
  have hL1 := hL.below L1
  clear hL
  go_wp2_with fail
  refine (lay_any x ao len cap D _ hL1 hx).mono ?_
  rintro e w2 ⟨n, b, s, qr, cr, R, f, rfl, n1, n2, M2, F2, hf, hb⟩
  have L2 := below_call' L1 hb
  replace M2 := M2.base L1.size
  replace F2 := F2.base L1.size
  clear hb L1 hL1
  by_cases h : 0 ≤ root ∧ root < n
  · obtain ⟨a1, a2⟩ := h
    obtain ⟨r, rfl⟩ := Int.eq_ofNat_of_zero_le a1
    have hW := whole_yes M2 hf r (by omega)
    have hR := fun W (F : Ref w.heap.size W qr n R f) => refWhole_yes F cr hf r
    have t1 : ¬ ((n : Int) ≤ (r : Int)) := by omega
    cases hg : gather (walkF n f r) 4096 with
    | none =>
      rw [hg] at hW hR
      have hcode := fun w => code_any 2 w (by omega) (by omega)
      clear hg M2
      go_wp2_with fail
      refine hW.mono ?_
      rintro e w3 ⟨he, hb⟩
      simp only at he
      subst he
      have F3 := F2.below hb
      have L3 := below_call' L2 hb
      clear hb F2 L2 hW
      go_wp2_with fail
      refine (hR _ F3).mono ?_
      rintro e w4 ⟨he, hb⟩
      simp only at he
      subst he
      have L4 := below_call' L3 hb
      clear hb F3 L3 hR
      go_wp2_with (go_at_call 15; refine (hcode _).mono ?_; rintro e w6 ⟨rfl, hw⟩; obtain rfl := hw.symm; clear hw)
      go_loop [14] (fun i => i = .int .i64 0) (fun _ => 0)
      case atStart => rfl
      case round =>
        subst hrel
        go_wp2
        go_ret
        exact ⟨rfl, L4⟩
    | some L =>
      rw [hg] at hW hR
      have hcode := code_nil
      have hl := len_gather _ _ _ hg
      clear hg M2
      go_wp2_with fail
      refine hW.mono ?_
      rintro e w3 ⟨⟨v, rfl, own⟩, hb⟩
      obtain ⟨ao3, cap3, rfl, X3⟩ := own_form own
      have F3 := F2.below hb
      have L3 := below_call' L2 hb
      clear hb F2 L2 hW own
      go_wp2_with fail
      refine (hR _ F3).mono ?_
      rintro e w4 ⟨⟨v, rfl, own⟩, hb⟩
      obtain ⟨ao4, cap4, rfl, X4⟩ := own_form own
      have Y4 := X3.below hb
      have L4 := below_call' L3 hb
      clear hb F3 L3 hR own X3
      obtain ⟨m, hm⟩ : ∃ m, m = L.length := ⟨_, rfl⟩
      have HX : Hid (∀ k, k < m → ∃ g, ao4 = some ⟨g, 0, none⟩ ∧ g < w4.heap.size ∧ (∀ j, j < 11 → w4.cell? ⟨g, k * 11 + j, none⟩ = (fcells (L.getD k nilF))[j]?)) := fun k hk => X4.at k (by omega)
      have HY : Hid (∀ k, k < m → ∃ g, ao3 = some ⟨g, 0, none⟩ ∧ g < w4.heap.size ∧ (∀ j, j < 11 → w4.cell? ⟨g, k * 11 + j, none⟩ = (fcells (L.getD k nilF))[j]?)) := fun k hk => Y4.at k (by omega)
      rw [← hm] at hl ⊢
      clear hm X4 Y4
      go_wp2_with (go_at_call 15; refine (hcode _).mono ?_; rintro e w6 ⟨rfl, hw⟩; obtain rfl := hw.symm; clear hw)
      clear hcode
      go_loopw [14] (fun i W => ∃ k : Nat, k ≤ m ∧ i = .int .i64 k ∧ ∃ d, W = w4.drewN d) (fun i _ => m - (intOf i).toNat)
      case atStart => exact ⟨0, by omega, rfl, 0, rfl⟩
      case round =>
        obtain ⟨k, hk, rfl, d, hwr⟩ := hrel
        by_cases hlt : k < m
        · obtain ⟨g, rfl, _, c⟩ := HX.out k hlt
          obtain ⟨g', rfl, _, c'⟩ := HY.out k hlt
          generalize L.getD k nilF = y at *
          have c2 : ∀ j, j < 11 → wr.cell? ⟨g, k * 11 + j, none⟩ = (fcells y)[j]? := by rw [hwr]; exact c
          have c2' : ∀ j, j < 11 → wr.cell? ⟨g', k * 11 + j, none⟩ = (fcells y)[j]? := by rw [hwr]; exact c'
          obtain ⟨x0, x1, x2, x3, x4, x5, x6, x7, x8, x9, x10⟩ := row_cells c2
          obtain ⟨y0, y1, y2, y3, y4, y5, y6, y7, y8, y9, y10⟩ := row_cells c2'
          have hn := neq_fnd y y
          rw [eqF_self] at hn
          unfold fv at hn
          have HW : Hid _ := hwr
          clear hwr c c' c2 c2'
          go_wp2_with fail
          go_quiet (fail)
          clear x0 x1 x2 x3 x4 x5 x6 x7 x8 x9 x10 y0 y1 y2 y3 y4 y5 y6 y7 y8 y9 y10 hn
          go_wp2
          go_roundw
          case rel => exact ⟨k + 1, by omega, by go_num, d + nq, by rw [HW.out]; simp⟩
          case measure => simp [intOf]; omega
        · have L5 : Below w.heap.size w wr := by rw [hwr]; exact below_drewN L4 d
          clear hwr HX HY
          go_wp2
          go_ret
          exact ⟨rfl, L5⟩
  · have hc : root < 0 ∨ (¬ root < 0 ∧ (n : Int) ≤ root) := by omega
    have hW := whole_no M2 root (okF_no (by omega))
    clear h F2 M2 hf
    rcases hc with h1 | ⟨h1, h2⟩
    all_goals
      go_wp2_with fail
      refine hW.mono ?_
      rintro e w3 ⟨rfl, hw⟩
      rw [← hw] at L2
      clear hw hW
      go_wp2
      go_ret
      exact ⟨rfl, L2⟩
end Go.Proofs.Yteoblaopbhdneaa
