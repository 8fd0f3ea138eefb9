/- The document's At. -/
import Derived.Test.YtoimmapdkapheaaFRFk
namespace Go.Proofs.Ytoimmapdkapheaa
set_option maxRecDepth 4000
open Go.RowKit

/-- The cells on the way to a page. -/
theorem at_cells {F : Nat → Prop} {w : World} {q : Nat} {v : Value} {T : Sps} (h : (FmX q v T).In F w) {i : Nat} (hi : i < T.length) {pg : Int} (h0 : 0 ≤ pg) (h1 : pg < 4096) :
    ∃ g c gp cp, w.cell? ⟨q, 0, none⟩ = some (.slice (some ⟨g, 0, none⟩) T.length c) ∧ w.cell? ⟨g, i * 3 + 1, none⟩ = some (.slice (some ⟨gp, 0, none⟩) 4096 cp) ∧ w.cell? ⟨gp, pg.toNat * 4, none⟩ = some (.bool ((T.getD i zT).2.f pg).isSome) := by
  obtain ⟨g, c, hv, hlt, hat⟩ := fm_at h hi
  obtain ⟨s1, -⟩ := fm_see h hi
  obtain ⟨k, rfl⟩ : ∃ k : Nat, pg = k := ⟨pg.toNat, by omega⟩
  obtain ⟨g', e', -, -, -, -, -, hat2⟩ := s1.at (show k < _ by rw [pages_len]; omega)
  cases e'
  obtain ⟨p0, -⟩ := APg.at hat2
  rw [show rAPg.zero = APg.zero from rfl, pages_get _ (by omega), pgA_is] at p0
  refine ⟨g, c, (T.getD i zT).1.gp, (T.getD i zT).1.cp, by rw [(FmX.box h).cell, hv]; rfl, (rSp.at hat).2.1, ?_⟩
  simpa [rAPg] using p0
/-- What At tells: the space's place among the others, or an error's number. -/
def AtP (w : World) (T : Sps) (n : Int) (code : Int) (e : Ending) (w' : World) : Prop :=
  w' = w ∧ ((code ≠ 0 ∧ e = .returned (.tuple #[.int .i64 0, .int .i64 code])) ∨ (code = 0 ∧ ∃ i : Nat, i < T.length ∧ (T.getD i zT).1.n = n ∧ e = .returned (.tuple #[.int .i64 i, .int .i64 0])))
set_option maxRecDepth 100000 in
set_option maxHeartbeats 8000000 in
theorem rat_any {F : Nat → Prop} {w : World} {q : Nat} {v : Value} {T : Sps} {A : Wd} {n pg j code : Int} (h : (FmX q v T).In F w) (hT : FmOk T A) (hd : AtD A n pg j code) :
    Calls Try.prog 33 #[.pointer (some ⟨q, 0, none⟩), .int .i64 n, .int .i64 pg, .int .i64 j] w (AtP w T n code) := by
  rcases hd with ⟨h1, rfl⟩ | ⟨s, hs, hd⟩
  · have hf := rfind_no (n := n) (FmX.box h) (FmX.row h) hT.few (by rw [hT.eq]; exact h1)
    clear h hT h1
    go_enter Try.func33, Try.ntmps33
    go_wp2_with fail
    refine hf.mono ?_
    rintro e w1 ⟨rfl, hw⟩
    obtain rfl := hw.symm
    clear hw
    go_wp2
    go_ret2
    exact ⟨rfl, Or.inl ⟨by decide, rfl⟩⟩
  · obtain ⟨i, hi, hin, his⟩ := lk_mem (T := T) (by rw [hT.eq]; exact hs)
    have hf := rfind_yes (FmX.box h) (FmX.row h) hT.few hT.nod hi hin
    have hp1 : ¬ (i : Int) < 0 := by omega
    rcases hd with ⟨h1, rfl⟩ | ⟨h1, h2, h3, rfl⟩ | ⟨h1, h2, h3, rfl⟩
    · clear h hT hs hi hin his
      by_cases h0 : j < 0
      · clear h1
        go_enter Try.func33, Try.ntmps33
        go_wp2_with fail
        refine hf.mono ?_
        rintro e w1 ⟨rfl, hw⟩
        obtain rfl := hw.symm
        clear hw
        go_wp2
        go_ret2
        exact ⟨rfl, Or.inl ⟨by decide, rfl⟩⟩
      · have h7 : 7 < j := by omega
        clear h1
        go_enter Try.func33, Try.ntmps33
        go_wp2_with fail
        refine hf.mono ?_
        rintro e w1 ⟨rfl, hw⟩
        obtain rfl := hw.symm
        clear hw
        go_wp2
        go_ret2
        exact ⟨rfl, Or.inl ⟨by decide, rfl⟩⟩
    · have hj0 : ¬ j < 0 := by omega
      have hj7 : ¬ 7 < j := by omega
      by_cases hpg : pg < 0
      · clear h hT hs hi hin his h3 h1 h2
        go_enter Try.func33, Try.ntmps33
        go_wp2_with fail
        refine hf.mono ?_
        rintro e w1 ⟨rfl, hw⟩
        obtain rfl := hw.symm
        clear hw
        go_wp2
        go_ret2
        exact ⟨rfl, Or.inl ⟨by decide, rfl⟩⟩
      · by_cases hpg2 : 4095 < pg
        · clear h hT hs hi hin his h3 h1 h2
          go_enter Try.func33, Try.ntmps33
          go_wp2_with fail
          refine hf.mono ?_
          rintro e w1 ⟨rfl, hw⟩
          obtain rfl := hw.symm
          clear hw
          go_wp2
          go_ret2
          exact ⟨rfl, Or.inl ⟨by decide, rfl⟩⟩
        · obtain ⟨g, c, gp, cp, c0, c1, c2⟩ := at_cells (pg := pg) h hi (by omega) (by omega)
          rw [his, h3, Option.isSome_none] at c2
          obtain ⟨k, rfl⟩ : ∃ k : Nat, pg = k := ⟨pg.toNat, by omega⟩
          simp only [Int.toNat_natCast] at c2
          have hil : (i : Int) < (T.length : Int) := by omega
          have hk4 : (k : Int) < 4096 := by omega
          have hk9 : ¬ 4095 < (k : Int) := hpg2
          clear h hT hs hi hin his h3 h1 h2
          go_enter Try.func33, Try.ntmps33
          go_wp2_with fail
          refine hf.mono ?_
          rintro e w1 ⟨rfl, hw⟩
          obtain rfl := hw.symm
          clear hw
          go_wp2
          go_ret2
          exact ⟨rfl, Or.inl ⟨by decide, rfl⟩⟩
    · have hj0 : ¬ j < 0 := by omega
      have hj7 : ¬ 7 < j := by omega
      have hpg : 0 ≤ pg ∧ pg < 4096 := by
        by_cases c : 0 ≤ pg ∧ pg < 4096
        · exact c
        · exact absurd ((hT.ok n s hs).2.out pg (by omega)) h3
      obtain ⟨g, c, gp, cp, c0, c1, c2⟩ := at_cells h hi hpg.1 hpg.2
      rw [his, Option.isSome_iff_ne_none.2 h3] at c2
      obtain ⟨k, rfl⟩ : ∃ k : Nat, pg = k := ⟨pg.toNat, by omega⟩
      simp only [Int.toNat_natCast] at c2
      have hil : (i : Int) < (T.length : Int) := by omega
      have hk4 : (k : Int) < 4096 := by omega
      have hk9 : ¬ 4095 < (k : Int) := by omega
      have hk0 : ¬ (k : Int) < 0 := by omega
      have HI : Hid (i < T.length ∧ (T.getD i zT).1.n = n) := ⟨hi, hin⟩
      clear h hT hs hi hin his h3 h1 h2 hpg
      go_enter Try.func33, Try.ntmps33
      go_wp2_with fail
      refine hf.mono ?_
      rintro e w1 ⟨rfl, hw⟩
      obtain rfl := hw.symm
      clear hw
      go_wp2
      go_ret2
      exact ⟨rfl, Or.inr ⟨rfl, i, HI.out.1, HI.out.2, rfl⟩⟩
end Go.Proofs.Ytoimmapdkapheaa
