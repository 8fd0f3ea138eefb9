/- New, Take, TakeAt; condition: the table of math/bits lies as its text lays it. -/
import Derived.Test.YtbpihdeinkopfaaDoorUOps
import Derived.Test.YtbpihdeinkopfaaDoorUCarve
namespace Go.Proofs.YtbpihdeinkopfaaDoor
open Go.RowKit

theorem new_okl {n : Nat} (h : n ≤ 512) : Okl n (blkL 0 n) := by
  have hc := blk_cvr (Nat.zero_le n) (show n ≤ 1048576 by omega)
  exact ⟨hc.good, fun b hb => (hc.al b hb).2.2, h⟩
theorem new_cov {n : Nat} (h : n ≤ 512) (x : Nat) : cov (blkL 0 n) x ↔ x < n := by
  rw [(blk_cvr (Nat.zero_le n) (show n ≤ 1048576 by omega)).iff]
  omega
set_option maxHeartbeats 2000000 in
theorem new_yes (n : Nat) (w : World) (hT : Tab w) (h1 : 1 ≤ n) (h2 : n ≤ 512) :
    Calls Tryd.prog 9 #[.int .i64 n] w fun e w' => ∃ q, e = .returned (.tuple #[.pointer (some ⟨q, 0, none⟩), .nilIface]) ∧ NewS w n (blkL 0 n) q w' ∧ Below w.heap.size w w' := by
  have hB := blocks_any 0 n w hT (Nat.zero_le _) (by omega)
  generalize blkL 0 n = L at *
  go_enter Tryd.func9, Tryd.ntmps9
  go_wp2_with fail
  refine hB.mono ?_
  rintro e w1 ⟨v', rfl, hr, hb1, -⟩
  obtain ⟨ao', c', rfl⟩ := hr.form
  have HN : Hid (NewS w n L w1.heap.size (w1.alloc (.cells #[.int .i64 n, .slice ao' L.length c'] 55))) := by
    refine ⟨_, Laid.new _ _ _, (hr.lower (Nat.zero_le _)).below ((Below.refl _ _).alloc (Nat.le_refl _) _), ⟨hb1.size, by simp⟩, fun g hg => ?_, fun c hc => hc.2⟩
    have := hr.lt g hg
    exact ⟨this.1, by simp; omega⟩
  have HB : Hid (Below w.heap.size w (w1.alloc (.cells #[.int .i64 n, .slice ao' L.length c'] 55))) := hb1.alloc hb1.size _
  clear hr hb1 hB
  go_wp2
  go_ret2
  exact ⟨_, rfl, HN.out, HB.out⟩
theorem new_no (z : Int) (w : World) (h : ¬ (1 ≤ z ∧ z ≤ 512)) :
    Calls Tryd.prog 9 #[.int .i64 z] w fun e w' => e = .returned (.tuple #[.pointer none, .iface 28 (.int .i64 1)]) ∧ w' = w := by
  by_cases h1 : 1 ≤ z
  · have h2 : ¬ z ≤ 512 := by omega
    clear h
    go_enter Tryd.func9, Tryd.ntmps9
    go_wp2
    go_ret2
    exact ⟨rfl, rfl⟩
  · clear h
    go_enter Tryd.func9, Tryd.ntmps9
    go_wp2
    go_ret2
    exact ⟨rfl, rfl⟩

/-- Take's answers. -/
def TakeP (F : Nat → Prop) (w : World) (p n : Nat) (L : List Bk) (o : Nat) (e : Ending) (w' : World) : Prop :=
  match lst o L L.length with
  | none => e = .returned (.tuple #[.int .i64 0, .iface 28 (.int .i64 5)]) ∧ Below w.heap.size w w'
  | some m => e = .returned (.tuple #[.int .i64 (L.getD m (0, 0)).1, .nilIface]) ∧ ∃ L', SP F w p n L' w' ∧ Okl n L' ∧ ∀ x, cov L' x ↔ cov L x ∧ ¬ inB ((L.getD m (0, 0)).1, o) x
set_option maxHeartbeats 2000000 in
theorem take_any {F : Nat → Prop} {w : World} {p n : Nat} {v : Value} {L : List Bk} (hs : Sto F w p n v L) (ho : Okl n L) (hT : Tab w) (o : Nat) (h5 : o ≤ 5) :
    Calls Tryd.prog 14 #[.pointer (some ⟨p, 0, none⟩), .int .i64 o] w (TakeP F w p n L o) := by
  have hM := fun w => mayOrder_any o w
  rw [show decide (0 ≤ (o : Int) ∧ (o : Int) ≤ 5) = true by simp; omega] at hM
  have hL := least_any hs ho o
  unfold TakeP
  have hsp := lst_spec o L L.length
  cases hl : lst o L L.length with
  | none =>
    rw [hl] at hL
    simp only [Option.getD_none, Option.isSome_none] at hL
    clear hs ho hsp
    go_enter Tryd.func14, Tryd.ntmps14
    go_wp2_with (go_at_call 27; refine (hM _).mono ?_; rintro e w1 ⟨rfl, hw⟩; obtain rfl := hw.symm; clear hw)
    refine hL.mono ?_
    rintro e w1 ⟨rfl, hb⟩
    go_wp2
    go_ret2
    exact ⟨rfl, hb⟩
  | some m =>
    rw [hl] at hL hsp
    simp only [Option.getD_some, Option.isSome_some] at hL hsp
    obtain ⟨hm, hmo, -⟩ := hsp
    have hbm := ho.get hm
    have hal := (ho.good.al _ hbm)
    have hbb := ho.blk hbm
    have hC := fun w (hs : Sto F w p n v L) (hT : Tab w) => carve_any hs ho hT m hm ((L.getD m (0, 0)).1, o) _ rfl (Nat.le_refl _) (by
      unfold bend
      simp only
      have := Nat.pow_le_pow_right (show 0 < 2 by decide) hmo
      omega) h5
    unfold bval at hC
    obtain ⟨ao, c, rfl⟩ := hs.row.form
    have HS : Hid (Sto F w p n (.slice ao L.length c) L) := hs
    have HT : Hid (Tab w) := hT
    have hmz : (m : Int) < (L.length : Int) := by omega
    clear hs ho hT hl
    obtain ⟨b, hbe⟩ : ∃ b, L.getD m (0, 0) = b := ⟨_, rfl⟩
    dsimp only
    rw [hbe] at hC hbm hal hbb hmo ⊢
    have HE : Hid (L.getD m (0, 0) = b) := hbe
    clear hbe
    go_enter Tryd.func14, Tryd.ntmps14
    go_wp2_with (go_at_call 27; refine (hM _).mono ?_; rintro e w1 ⟨rfl, hw⟩; obtain rfl := hw.symm; clear hw)
    refine hL.mono ?_
    rintro e w1 ⟨rfl, hb⟩
    have S1 := HS.out.below hb
    have T1 := HT.out.below hb (Nat.le_refl _)
    have hC1 := hC w1 S1 T1
    obtain ⟨q0, q1, q2, q3⟩ := S1.p0
    obtain ⟨g, rfl, _, _, hg, _, _, hat⟩ := S1.row.at hm
    obtain ⟨c0, c1⟩ := rB.at hat
    simp only [show rB.n = 2 from rfl, show rB.zero = (0, 0) from rfl, HE.out] at c0 c1
    have HB : Hid (Below w.heap.size w w1) := hb
    clear S1 T1 hC hL hat hb HT hM
    go_wp2_with fail
    refine hC1.mono ?_
    rintro e w2 ⟨L', ⟨rfl, hsp⟩, hok, hcv⟩
    have HX : Hid (∃ L', SP F w p n L' w2 ∧ Okl n L' ∧ ∀ x, cov L' x ↔ cov L x ∧ ¬ inB (b.1, o) x) := by
      refine ⟨L', ?_, hok, hcv⟩
      exact hsp.after HS.out.lt HB.out
    clear hsp hok hcv hC1
    go_wp2
    go_ret2
    exact ⟨rfl, HX.out⟩
theorem take_no {w : World} {p : Nat} (o : Int) (h : ¬ (0 ≤ o ∧ o ≤ 5)) :
    Calls Tryd.prog 14 #[.pointer (some ⟨p, 0, none⟩), .int .i64 o] w fun e w' => e = .returned (.tuple #[.int .i64 0, .iface 28 (.int .i64 1)]) ∧ w' = w := by
  have hM := fun w => mayOrder_any o w
  rw [decide_eq_false h] at hM
  clear h
  go_enter Tryd.func14, Tryd.ntmps14
  go_wp2_with (go_at_call 27; refine (hM _).mono ?_; rintro e w1 ⟨rfl, hw⟩; obtain rfl := hw.symm; clear hw)
  go_ret2
  exact ⟨rfl, rfl⟩

/-- All frames of a block are free. -/
def allB (L : List Bk) (b : Bk) (f : Bool) : Prop := ∀ x, inB b x → covB L x = f
theorem Good.at_iff {n : Nat} {L : List Bk} (ho : Okl n L) {b : Bk} (hb : alB b) : (∃ c, L[behind L b.1]? = some c ∧ c.1 ≤ b.1 ∧ b.2 ≤ c.2) ↔ allB L b true := by
  constructor
  · rintro ⟨c, hc, h1, h2⟩ x hx
    have hcm := List.mem_of_getElem? hc
    have hal := ho.good.al c hcm
    have h3 := (behind_split L b.1).2 c hc
    have hn := nest (a := b) (b := c) hb.2 hal.2 h2 ⟨Nat.le_refl _, bend_pos b⟩ ⟨h1, h3⟩
    exact (covB_iff _ _).2 ⟨c, hcm, by have := hx.1; omega, by have := hx.2; omega⟩
  · intro h
    obtain ⟨c, hc, h1, h2, h3⟩ := ho.good.within hb.2 hb.1 fun x hx => (covB_iff _ _).1 (h x hx)
    obtain ⟨i, hi⟩ := List.getElem?_of_mem hc
    have hbp := bend_pos b
    have hm := (behind_mono ho.good.sorted b.1 i c hi).1 (by omega)
    rcases Nat.lt_or_ge (behind L b.1) i with c' | c'
    · exfalso
      have hlt : behind L b.1 < L.length := Nat.lt_trans c' (List.getElem?_eq_some_iff.1 hi).1
      have h4 := List.pairwise_iff_getElem.1 ho.good.sorted _ _ hlt (List.getElem?_eq_some_iff.1 hi).1 c'
      rw [(List.getElem?_eq_some_iff.1 hi).2] at h4
      have h5 := (behind_split L b.1).2 _ (List.getElem?_eq_getElem hlt)
      omega
    · have e : behind L b.1 = i := by omega
      rw [e]
      exact ⟨c, hi, h1, h3⟩

/-- TakeAt's answers. -/
def TakeAtP (F : Nat → Prop) (w : World) (p n : Nat) (L : List Bk) (b : Bk) (e : Ending) (w' : World) : Prop :=
  (allB L b true → e = .returned .nilIface ∧ ∃ L', SP F w p n L' w' ∧ Okl n L' ∧ ∀ x, cov L' x ↔ cov L x ∧ ¬ inB b x) ∧ (¬ allB L b true → e = .returned (.iface 28 (.int .i64 7)) ∧ Below w.heap.size w w')
set_option maxHeartbeats 2000000 in
theorem takeAt_no {F : Nat → Prop} {w : World} {p n : Nat} {v : Value} {L : List Bk} (hs : Sto F w p n v L) (ho : Okl n L) (z o : Int) (hz : -9223372036854775808 ≤ z ∧ z ≤ 9223372036854775807) (h : hasB n z o = false) :
    Calls Tryd.prog 16 #[.pointer (some ⟨p, 0, none⟩), .int .i64 z, .int .i64 o] w fun e w' => e = .returned (.iface 28 (.int .i64 1)) ∧ Below w.heap.size w w' := by
  have hH := hasBlock_any hs ho.max z o hz
  rw [h] at hH
  clear hs ho h
  go_enter Tryd.func16, Tryd.ntmps16
  go_wp2_with fail
  refine hH.mono ?_
  rintro e w1 ⟨rfl, hb⟩
  go_wp2
  go_ret
  exact ⟨rfl, hb⟩
set_option maxHeartbeats 2000000 in
theorem takeAt_any {F : Nat → Prop} {w : World} {p n : Nat} {v : Value} {L : List Bk} (hs : Sto F w p n v L) (ho : Okl n L) (hT : Tab w) (b : Bk) (hb : alB b) (hbn : bend b ≤ n) :
    Calls Tryd.prog 16 #[.pointer (some ⟨p, 0, none⟩), .int .i64 b.1, .int .i64 b.2] w (TakeAtP F w p n L b) := by
  have hmx := ho.max
  have hbp := bend_pos b
  have hH := hasBlock_any hs ho.max b.1 b.2 (by omega)
  rw [hasB_of hb hbn] at hH
  have hE := fun w (hs : Sto F w p n v L) => endsBehind_any hs ho b.1
  have hU := fun w (hs : Sto F w p n v L) => beginsUpTo_any hs (behind L b.1) b.1
  simp only [Int.toNat_natCast] at hE
  have HA : Hid ((∃ c, L[behind L b.1]? = some c ∧ c.1 ≤ b.1 ∧ b.2 ≤ c.2) ↔ allB L b true) := Good.at_iff ho hb
  have hC := fun w (hs : Sto F w p n v L) (hT : Tab w) => carve_any hs ho hT (behind L b.1)
  obtain ⟨ao, c, rfl⟩ := hs.row.form
  have HS : Hid (Sto F w p n (.slice ao L.length c) L) := hs
  have HT : Hid (Tab w) := hT
  have hL := ho.len
  have hnest : ∀ c, L[behind L b.1]? = some c → c.1 ≤ b.1 → b.2 ≤ c.2 → bend b ≤ bend c := fun c hc h1 h2 =>
    (nest (a := b) (b := c) hb.2 (ho.good.al c (List.mem_of_getElem? hc)).2 h2 ⟨Nat.le_refl _, hbp⟩ ⟨h1, (behind_split L b.1).2 c hc⟩).2
  have h5 := hb.1
  clear hs ho hT
  obtain ⟨i, hie⟩ : ∃ i, i = behind L b.1 := ⟨_, rfl⟩
  rw [← hie] at hE hU HA hC hnest
  clear hie
  cases hc : L[i]? with
  | none =>
    have hna : ¬ allB L b true := fun h => by
      obtain ⟨c, h1, _⟩ := HA.out.2 h
      rw [hc] at h1
      cases h1
    have hu : upTo L i b.1 = false := by unfold upTo; rw [hc]
    rw [hu] at hU
    have HN : Hid (¬ allB L b true) := hna
    clear hna HA hC hnest hc hu
    go_enter Tryd.func16, Tryd.ntmps16
    go_wp2_with fail
    refine hH.mono ?_
    rintro e w1 ⟨rfl, hb1⟩
    have hE1 := hE w1 (HS.out.below hb1)
    clear hH hE
    go_wp2_with fail
    refine hE1.mono ?_
    rintro e w2 ⟨rfl, hb2⟩
    have hb3 := below_call' hb1 hb2
    have hU1 := hU w2 (HS.out.below hb3)
    clear hE1 hU hb1 hb2
    go_wp2_with (go_at_call 32; refine hU1.mono ?_; rintro e w3 ⟨rfl, hw⟩; obtain rfl := hw.symm; clear hw)
    go_ret
    exact ⟨fun h => absurd h HN.out, fun _ => ⟨rfl, hb3⟩⟩
  | some c' =>
    have hil := (List.getElem?_eq_some_iff.1 hc).1
    have hilz : (i : Int) < (L.length : Int) := by omega
    have hgd : L.getD i (0, 0) = c' := by rw [List.getD_eq_getElem?_getD, hc]; rfl
    have hu : upTo L i b.1 = decide (c'.1 ≤ b.1) := by unfold upTo; rw [hc]; simp
    rw [hu] at hU
    have hiff : allB L b true ↔ c'.1 ≤ b.1 ∧ b.2 ≤ c'.2 := by
      rw [← HA.out]
      constructor
      · rintro ⟨c, h1, h2⟩
        rw [hc] at h1
        cases h1
        exact h2
      · intro h
        exact ⟨c', hc, h⟩
    have HI : Hid (allB L b true ↔ c'.1 ≤ b.1 ∧ b.2 ≤ c'.2) := hiff
    have HN : Hid (c'.1 ≤ b.1 → b.2 ≤ c'.2 → bend b ≤ bend c') := hnest c' hc
    clear hiff HA hnest hc hu
    go_enter Tryd.func16, Tryd.ntmps16
    go_wp2_with fail
    refine hH.mono ?_
    rintro e w1 ⟨rfl, hb1⟩
    have hE1 := hE w1 (HS.out.below hb1)
    clear hH hE
    go_wp2_with fail
    refine hE1.mono ?_
    rintro e w2 ⟨rfl, hb2⟩
    have hb3 := below_call' hb1 hb2
    have S2 := HS.out.below hb3
    have hU1 := hU w2 S2
    have T2 := HT.out.below hb3 (Nat.le_refl _)
    obtain ⟨q0, q1, q2, q3⟩ := S2.p0
    obtain ⟨g, rfl, _, _, hg, _, _, hat⟩ := S2.row.at hil
    obtain ⟨c0, c1⟩ := rB.at hat
    simp only [show rB.n = 2 from rfl, show rB.zero = (0, 0) from rfl, hgd] at c0 c1
    have HB : Hid (Below w.heap.size w w2) := hb3
    clear hE1 hU hb1 hb2 hat hb3
    by_cases h1 : c'.1 ≤ b.1
    · rw [decide_eq_true h1] at hU1
      by_cases h2 : b.2 ≤ c'.2
      · have hC2 := hC w2 S2 T2 hil b c' hgd h1 (HN.out h1 h2) h5
        have hn2 : ¬ (c'.2 : Int) < b.2 := by omega
        unfold bval at hC2
        clear hC S2 T2
        go_wp2_with (go_at_call 32; refine hU1.mono ?_; rintro e w3 ⟨rfl, hw⟩; obtain rfl := hw.symm; clear hw)
        refine hC2.mono ?_
        rintro e w3 ⟨L', ⟨rfl, hsp⟩, hok, hcv⟩
        have HX : Hid (∃ L', SP F w p n L' w3 ∧ Okl n L' ∧ ∀ x, cov L' x ↔ cov L x ∧ ¬ inB b x) := ⟨L', hsp.after HS.out.lt HB.out, hok, hcv⟩
        clear hsp hok hcv hC2
        go_wp2
        go_ret
        exact ⟨fun _ => ⟨rfl, HX.out⟩, fun h => absurd (HI.out.2 ⟨h1, h2⟩) h⟩
      · have hn2 : (c'.2 : Int) < b.2 := by omega
        clear hC S2 T2
        go_wp2_with (go_at_call 32; refine hU1.mono ?_; rintro e w3 ⟨rfl, hw⟩; obtain rfl := hw.symm; clear hw)
        go_ret
        exact ⟨fun h => absurd (HI.out.1 h).2 h2, fun _ => ⟨rfl, HB.out⟩⟩
    · rw [decide_eq_false h1] at hU1
      clear hC S2 T2
      go_wp2_with (go_at_call 32; refine hU1.mono ?_; rintro e w3 ⟨rfl, hw⟩; obtain rfl := hw.symm; clear hw)
      go_ret
      exact ⟨fun h => absurd (HI.out.1 h).1 h1, fun _ => ⟨rfl, HB.out⟩⟩
end Go.Proofs.YtbpihdeinkopfaaDoor
