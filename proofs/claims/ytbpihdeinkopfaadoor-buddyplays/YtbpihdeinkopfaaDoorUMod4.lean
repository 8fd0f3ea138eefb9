/- The document's store: Take. -/
import Derived.Test.YtbpihdeinkopfaaDoorUMod3
namespace Go.Proofs.YtbpihdeinkopfaaDoor
open Go.RowKit

theorem lst_found {o : Nat} {L : List Bk} {oo i : Nat} (hi : i < L.length) (he : (L.getD i (0, 0)).2 = oo) (h1 : o ≤ oo) (h2 : ∀ j, j < L.length → (L.getD j (0, 0)).2 < o ∨ oo ≤ (L.getD j (0, 0)).2) (h3 : ∀ j, j < i → (L.getD j (0, 0)).2 ≠ oo) : lst o L L.length = some i := by
  have hs := lst_spec o L L.length
  cases h : lst o L L.length with
  | none =>
    rw [h] at hs
    have := hs i hi
    omega
  | some m =>
    rw [h] at hs
    obtain ⟨s1, s2, s3⟩ := hs
    have t1 := s3 i hi (by omega)
    have t2 := h2 m s1
    have e : (L.getD m (0, 0)).2 = (L.getD i (0, 0)).2 := by omega
    have t3 := t1.2 e
    rcases Nat.lt_or_ge m i with c | c
    · exact absurd (by omega) (h3 m c)
    · rw [show m = i by omega]
theorem lst_lost {o : Nat} {n : Nat} {L : List Bk} (ho : Okl n L) (h2 : ∀ j, j < L.length → (L.getD j (0, 0)).2 < o ∨ 6 ≤ (L.getD j (0, 0)).2) : lst o L L.length = none := by
  have hs := lst_spec o L L.length
  cases h : lst o L L.length with
  | none => rfl
  | some m =>
    rw [h] at hs
    obtain ⟨s1, s2, _⟩ := hs
    have := (ho.good.al _ (ho.get s1)).1
    have := h2 m s1
    omega

/-- Take's answers. -/
def RTakeP (B : Nat) (w : World) (v : Value) (M : List Bool) (L : List Bk) (o : Nat) (e : Ending) (w' : World) : Prop :=
  match lst o L L.length with
  | none => e = .returned (.int .i64 (-1)) ∧ Row rO B w' v M ∧ Below w.heap.size w w'
  | some m => e = .returned (.int .i64 (L.getD m (0, 0)).1) ∧ Row rO B w' v (setK M (L.getD m (0, 0)).1 (2 ^ o) false) ∧ Keeps w w' (fun b => v.ownBlock = some b)

set_option maxRecDepth 100000 in
set_option maxHeartbeats 8000000 in
theorem refTake_any {B : Nat} {w : World} {v : Value} {M : List Bool} (hr : Row rO B w v M) {n : Nat} {L : List Bk} (ho : Okl n L) (hn : M.length = n) (hcv : ∀ x, covB L x = M.getD x false) (o : Nat) (h5 : o ≤ 5) (hin : ∀ m, lst o L L.length = some m → bend ((L.getD m (0, 0)).1, o) ≤ n) :
    Calls Tryd.prog 15 #[v, .int .i64 o] w (RTakeP B w v M L o) := by
  have hF := refFree_any hr ho hn hcv
  have hmx := ho.max
  have hlen := ho.len
  have HR : Hid (Row rO B w v M) := hr
  have HO : Hid (Okl n L) := ho
  have HIN : Hid (∀ m, lst o L L.length = some m → bend ((L.getD m (0, 0)).1, o) ≤ n) := hin
  obtain ⟨ao, c, rfl⟩ := hr.form
  have hMl : M.length ≤ 512 := by omega
  have HIN2 : Hid (∀ m, lst o L L.length = some m → bend ((L.getD m (0, 0)).1, o) ≤ M.length) := by rw [hn]; exact hin
  clear hr ho hcv hin hn HIN
  go_enter Tryd.func15, Tryd.ntmps15
  go_wp2_with fail
  refine hF.mono ?_
  rintro e w1 ⟨vl, rfl, R1, hb1⟩
  obtain ⟨al, cl, rfl⟩ := R1.form
  have HR1 : Hid (Row rB w.heap.size w1 (.slice al L.length cl) L ∧ Row rO B w1 (.slice ao M.length c) M ∧ Below w.heap.size w w1) := ⟨R1, HR.out.below hb1, hb1⟩
  clear hF R1 hb1 HR
  go_wp2_with fail
  go_loopw [6, 7] (fun ov _ W => ∃ oo : Nat, o ≤ oo ∧ oo ≤ 6 ∧ ov = .int .i64 oo ∧ W = w1 ∧ Hid (∀ j, j < L.length → (L.getD j (0, 0)).2 < o ∨ oo ≤ (L.getD j (0, 0)).2)) (fun ov _ _ => 6 - (intOf ov).toNat)
  case atStart => exact ⟨o, Nat.le_refl _, by omega, rfl, rfl, (fun j hj => by omega : ∀ j, j < L.length → (L.getD j (0, 0)).2 < o ∨ o ≤ (L.getD j (0, 0)).2)⟩
  case round =>
    obtain ⟨oo, ho1, ho2, rfl, rfl, HI⟩ := hrel
    by_cases h6 : oo ≤ 5
    · have h6z : (oo : Int) ≤ 5 := by omega
      go_wp2_with fail
      go_loopw [7] (fun iv W => ∃ i : Nat, i ≤ L.length ∧ iv = .int .i64 i ∧ W = wr ∧ Hid (∀ j, j < i → (L.getD j (0, 0)).2 ≠ oo)) (fun iv _ => L.length - (intOf iv).toNat)
      case atStart => exact ⟨0, Nat.zero_le _, rfl, rfl, (fun j hj => by omega : ∀ j, j < 0 → (L.getD j (0, 0)).2 ≠ oo)⟩
      case round =>
        obtain ⟨i, hi, rfl, rfl, HJ⟩ := hrel
        by_cases hil : i < L.length
        · have hilz : (i : Int) < (L.length : Int) := by omega
          obtain ⟨g, rfl, _, _, hg, _, _, hat⟩ := HR1.out.1.at hil
          obtain ⟨c0, c1⟩ := rB.at hat
          simp only [show rB.n = 2 from rfl, show rB.zero = (0, 0) from rfl] at c0 c1
          by_cases heq : (L.getD i (0, 0)).2 = oo
          · have hl := lst_found hil heq ho1 HI.out HJ.out
            have hbe := HIN2.out i hl
            have hS := refSet_any HR1.out.2.1 (by omega) ((L.getD i (0, 0)).1, o) h5 (by omega) false
            have hez : (((L.getD i (0, 0)).2 : Int) == (oo : Int)) = true := by rw [heq]; exact beq_self_eq_true _
            have HL : Hid (lst o L L.length = some i) := hl
            obtain ⟨b, hb⟩ : ∃ b, L.getD i (0, 0) = b := ⟨_, rfl⟩
            have HBE : Hid (L.getD i (0, 0) = b) := hb
            rw [hb] at c0 c1 hS hez
            simp only at hS
            clear hat hl hbe heq hb
            go_wp2_with fail
            refine hS.mono ?_
            rintro e w3 ⟨rfl, hr3, hk3⟩
            have hgl : g < wr.heap.size := hg
            have c0' : w3.cell? ⟨g, i * 2, none⟩ = some (.int .i64 b.1) := by
              rw [hk3.cell hgl (fun e => ?_)]
              · exact c0
              · obtain ⟨cur, hcur⟩ := HR1.out.2.1.tag e
                obtain ⟨cur', hcur'⟩ := HR1.out.1.tag (g := g) rfl
                exact ne_of_tag hcur hcur' (by decide) rfl
            have HX : Hid (Row rO B w3 (.slice ao M.length c) (setK M b.1 (2 ^ o) false) ∧ Keeps w w3 (fun b => (Value.slice ao M.length c).ownBlock = some b)) := ⟨hr3, (Keeps.of_below HR1.out.2.2 _).trans hk3 fun _ _ e => e⟩
            clear hS hr3 hk3 c0 c1
            go_wp2
            go_ret
            unfold RTakeP
            rw [HL.out]
            simp only
            rw [HBE.out]
            exact ⟨rfl, HX.out⟩
          · have hez : (((L.getD i (0, 0)).2 : Int) == (oo : Int)) = false := beq_eq_false_iff_ne.2 (by omega)
            have HJ2 : Hid (∀ j, j < i + 1 → (L.getD j (0, 0)).2 ≠ oo) := fun j hj => by
              rcases Nat.lt_or_ge j i with h' | h'
              · exact HJ.out j h'
              · rw [show j = i by omega]; exact heq
            generalize L.getD i (0, 0) = b at *
            clear hat heq HJ
            go_wp2
            go_roundw
            case rel => exact ⟨i + 1, by omega, by go_num, by first | rfl | trivial, HJ2⟩
            case measure => simp only [intOf]; omega
        · obtain rfl : i = L.length := by omega
          have HI2 : Hid (∀ j, j < L.length → (L.getD j (0, 0)).2 < o ∨ oo + 1 ≤ (L.getD j (0, 0)).2) := fun j hj => by
            have h1 := HI.out j hj
            have h2 := HJ.out j hj
            omega
          clear HJ
          go_wp2
          go_roundw
          case rel => exact ⟨oo + 1, by omega, by omega, by go_num, by first | rfl | trivial, HI2⟩
          case measure => simp only [intOf]; omega
    · have h6z : ¬ (oo : Int) ≤ 5 := by omega
      obtain rfl : oo = 6 := by omega
      have hl := lst_lost HO.out HI.out
      have HL : Hid (lst o L L.length = none) := hl
      clear hl
      go_wp2
      go_ret
      unfold RTakeP
      rw [HL.out]
      exact ⟨rfl, HR1.out.2⟩
end Go.Proofs.YtbpihdeinkopfaaDoor
