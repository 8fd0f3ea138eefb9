/- find, Load, Run, Areas: what is only read. -/
import Derived.Test.YtoimmapdkapheaaFMap
namespace Go.Proofs.Ytoimmapdkapheaa
set_option maxRecDepth 4000
open Go.RowKit

theorem below_set2 {B b : Nat} {a w : World} (h : Below B a w) (hb : B ≤ b) (u v : Value) : Below B a ((w.setCell ⟨b, 0, none⟩ u).setCell ⟨b, 1, none⟩ v) := (h.setCell (p := ⟨b, 0, none⟩) hb u).setCell (p := ⟨b, 1, none⟩) hb v
/-- What find tells. -/
def fdR (o : Option (Nat × Sp)) (pg i : Int) : Value := match o with
  | none => .tuple #[.pointer none, rv false false, .iface 48 (.int .i64 3)]
  | some x => if 0 ≤ i ∧ i < 8 then (match x.2.f pg with
    | none => .tuple #[.pointer none, rv false false, .iface 48 (.int .i64 3)]
    | some t => .tuple #[.pointer (some ⟨x.1, 0, none⟩), rv t.1 t.2.1, .nilIface]) else .tuple #[.pointer none, rv false false, .iface 48 (.int .i64 1)]
set_option maxRecDepth 100000 in
set_option maxHeartbeats 4000000 in
theorem ffind_any {F : Nat → Prop} {w : World} {p m : Nat} {l : Spl} {n pg i : Int} (h : (FlX p m l).In F w) (hn : okI n) :
    Calls Try.prog 36 #[.pointer (some ⟨p, 0, none⟩), .int .i64 n, .int .i64 pg, .int .i64 i] w fun e w' => e = .returned (fdR (getL l n) pg i) ∧ Hid (Below w.heap.size w w') := by
  have HB0 : Below w.heap.size w (w.alloc (.cells #[.bool false, .bool false] 31)) := new_below _ _
  have HX0 : Laid (w.alloc (.cells #[.bool false, .bool false] 31)) w.heap.size 31 #[.bool false, .bool false] := Laid.new _ _ _
  have hof := ofp_any ((FlX.box h).below HB0) ((FlX.mp h).same (HB0.block _ (FlX.mp h).lt)) hn
  have HBW : Hid (Below w.heap.size w (w.alloc (.cells #[.bool false, .bool false] 31))) := HB0
  cases hx : getL l n with
  | none =>
    rw [hx] at hof
    unfold ofR at hof
    try simp only at hof
    clear h HB0 HX0 hx
    go_enter Try.func36, Try.ntmps36
    go_wp2_with fail
    refine hof.mono ?_
    rintro e w1 ⟨rfl, hw⟩
    obtain rfl := hw.symm
    clear hw hof
    go_wp2
    refine bodyPost_ret (v := .tuple #[.pointer none, rv false false, .iface 48 (.int .i64 3)]) ?_ rfl ⟨rfl, HBW⟩
    simp [results, Try.results36, go_sem, rv]
  | some x =>
    rw [hx] at hof
    obtain ⟨g, s⟩ := x
    unfold ofR at hof
    try simp only at hof
    unfold fdR
    simp only
    by_cases hi : 0 ≤ i ∧ i < 8
    · rw [if_pos hi]
      obtain ⟨hi0, hi8⟩ := hi
      obtain ⟨G, g1⟩ := fl_see h hx
      obtain ⟨⟨v, M, wb, l0⟩, hf, g1⟩ := g1
      obtain ⟨k1, k2, k3⟩ := pgx_in g1
      try simp only at k1 k2 k3
      obtain ⟨ao, cc, rfl⟩ := k2.form
      have hML : M.length ≤ maxLen := by have := hf.few; simp only at this; unfold maxLen; omega
      obtain ⟨r, hr, hfind⟩ := find_tell M pg
      have hfd := hfind (w.alloc (.cells #[.bool false, .bool false] 31)) ao cc (k2.sn.below HB0) hML
      have c0 : (w.alloc (.cells #[.bool false, .bool false] 31)).cell? ⟨g, 0, none⟩ = some (.slice ao M.length cc) := by rw [(k1.below HB0).cell]; rfl
      have hrr : (s.f pg = none ∧ r = .error 3) ∨ ∃ d, r = .ok d ∧ s.f pg = some d.pg := by
        rcases hr with ⟨h, _⟩ | ⟨_, h, h'⟩ | ⟨_, d, _, _, _, h, h'⟩
        · exact absurd (fits_may hf) h
        · exact Or.inl ⟨(fits_own hf pg).symm.trans h, h'⟩
        · exact Or.inr ⟨d, h', (fits_own hf pg).symm.trans h⟩
      rcases hrr with ⟨e1, rfl⟩ | ⟨⟨da, db, dw, dx, dh⟩, rfl, e1⟩
      · rw [e1]
        simp only
        unfold fndR av AAr.zero at hfd
        simp only at hfd
        clear h hx g1 hf k1 k2 k3 hML hr hfind e1 HB0
        go_enter Try.func36, Try.ntmps36
        go_wp2_with fail
        refine hof.mono ?_
        rintro e w1 ⟨rfl, hw⟩
        obtain rfl := hw.symm
        clear hw hof
        go_wp2_with fail
        refine hfd.mono ?_
        rintro e w1 ⟨rfl, HB1⟩
        have HX1 := HX0.below HB1.out
        have lz := HX1.lt
        have y0 : w1.cell? ⟨w.heap.size, 0, none⟩ = some (.bool false) := by rw [HX1.cell]; rfl
        have y1 : w1.cell? ⟨w.heap.size, 1, none⟩ = some (.bool false) := by rw [HX1.cell]; rfl
        have yf : ∀ o, w1.frozen? ⟨w.heap.size, o, none⟩ = false := fun o => frozen_of_row w1 _ o _ _ HX1
        have HBE : Hid (Below w.heap.size w w1) := below_call' HBW.out HB1.out
        clear hfd HX0 HX1 HB1
        go_wp2
        refine bodyPost_ret (v := .tuple #[.pointer none, rv false false, .iface 48 (.int .i64 3)]) ?_ rfl ⟨rfl, ?_⟩
        · have hca := cell_alloc_old (w := (w1.setCell ⟨w.heap.size, 0, none⟩ (.bool false)).setCell ⟨w.heap.size, 1, none⟩ (.bool false)) (b := w.heap.size) (by simp; exact lz)
          simp [results, Try.results36, go_sem, rv, hca, y0, y1]
        · have hb := below_set2 HBE.out (Nat.le_refl _) (.bool false) (.bool false)
          exact hb.alloc hb.size _
      · rw [e1]
        simp only [AAr.pg]
        unfold fndR av at hfd
        simp only at hfd
        clear h hx g1 hf k1 k2 k3 hML hr hfind e1 HB0
        go_enter Try.func36, Try.ntmps36
        go_wp2_with fail
        refine hof.mono ?_
        rintro e w1 ⟨rfl, hw⟩
        obtain rfl := hw.symm
        clear hw hof
        go_wp2_with fail
        refine hfd.mono ?_
        rintro e w1 ⟨rfl, HB1⟩
        have HX1 := HX0.below HB1.out
        have lz := HX1.lt
        have y0 : w1.cell? ⟨w.heap.size, 0, none⟩ = some (.bool false) := by rw [HX1.cell]; rfl
        have y1 : w1.cell? ⟨w.heap.size, 1, none⟩ = some (.bool false) := by rw [HX1.cell]; rfl
        have yf : ∀ o, w1.frozen? ⟨w.heap.size, o, none⟩ = false := fun o => frozen_of_row w1 _ o _ _ HX1
        have HBE : Hid (Below w.heap.size w w1) := below_call' HBW.out HB1.out
        clear hfd HX0 HX1 HB1
        go_wp2
        go_region
        go_wp2
        refine bodyPost_ret (v := .tuple #[.pointer (some ⟨g, 0, none⟩), rv dw dx, .nilIface]) ?_ rfl ⟨rfl, ?_⟩
        · have hca := cell_alloc_old (w := (w1.setCell ⟨w.heap.size, 0, none⟩ (.bool dw)).setCell ⟨w.heap.size, 1, none⟩ (.bool dx)) (b := w.heap.size) (by simp; exact lz)
          simp [results, Try.results36, go_sem, rv, hca, y0, y1]
        · have hb := below_set2 HBE.out (Nat.le_refl _) (.bool dw) (.bool dx)
          exact (hb.alloc hb.size _).drew
    · rw [if_neg hi]
      clear h HB0 HX0 hx
      by_cases h0 : i < 0
      · clear hi
        go_enter Try.func36, Try.ntmps36
        go_wp2_with fail
        refine hof.mono ?_
        rintro e w1 ⟨rfl, hw⟩
        obtain rfl := hw.symm
        clear hw hof
        go_wp2
        refine bodyPost_ret (v := .tuple #[.pointer none, rv false false, .iface 48 (.int .i64 1)]) ?_ rfl ⟨rfl, HBW⟩
        simp [results, Try.results36, go_sem, rv]
      · have h8 : ¬ i < 8 := fun h => hi ⟨by omega, h⟩
        clear hi
        go_enter Try.func36, Try.ntmps36
        go_wp2_with fail
        refine hof.mono ?_
        rintro e w1 ⟨rfl, hw⟩
        obtain rfl := hw.symm
        clear hw hof
        go_wp2
        refine bodyPost_ret (v := .tuple #[.pointer none, rv false false, .iface 48 (.int .i64 1)]) ?_ rfl ⟨rfl, HBW⟩
        simp [results, Try.results36, go_sem, rv]

theorem idx_w8 (x : Nat → Nat) {j : Nat} (hj : j < 8) (w : World) : (Instr.index 77 (wv x) (.int .i64 j)).run Try.prog w = .ok (.int .u64 (x j)) w := by
  obtain ⟨i0, hi, hz0, hz1, hz2⟩ := info_parts (P := Try.prog) (e := 32) (z := .int .u64 0) (size := 1) (bytes := 8) (by kernel_rfl)
  unfold wv
  match j, hj with
  | 0, _ => simp [Instr.index, run_underlying Try.underlying77, w8arr, part, sizeOf, typeInfo, hi, hz1, go_sem]
  | 1, _ => simp [Instr.index, run_underlying Try.underlying77, w8arr, part, sizeOf, typeInfo, hi, hz1, go_sem]
  | 2, _ => simp [Instr.index, run_underlying Try.underlying77, w8arr, part, sizeOf, typeInfo, hi, hz1, go_sem]
  | 3, _ => simp [Instr.index, run_underlying Try.underlying77, w8arr, part, sizeOf, typeInfo, hi, hz1, go_sem]
  | 4, _ => simp [Instr.index, run_underlying Try.underlying77, w8arr, part, sizeOf, typeInfo, hi, hz1, go_sem]
  | 5, _ => simp [Instr.index, run_underlying Try.underlying77, w8arr, part, sizeOf, typeInfo, hi, hz1, go_sem]
  | 6, _ => simp [Instr.index, run_underlying Try.underlying77, w8arr, part, sizeOf, typeInfo, hi, hz1, go_sem]
  | 7, _ => simp [Instr.index, run_underlying Try.underlying77, w8arr, part, sizeOf, typeInfo, hi, hz1, go_sem]
/-- The value of a word. -/
def wdA (A : Wd) (n pg i : Int) : Int := match A n with
  | none => 0
  | some s => s.wd pg.toNat i.toNat
def ldV (A : Wd) (n pg i code : Int) : Int := if code = 0 then wdA A n pg i else 0
/-- What find tells, by the code. -/
theorem at_fd {l : Spl} {n pg i code : Int} (hd : AtD (lkP l) n pg i code) :
    (code ≠ 0 ∧ fdR (getL l n) pg i = .tuple #[.pointer none, rv false false, .iface 48 (.int .i64 code)]) ∨
    (code = 0 ∧ ∃ g s t, getL l n = some (g, s) ∧ lkP l n = some s ∧ s.f pg = some t ∧ 0 ≤ i ∧ i < 8 ∧ fdR (getL l n) pg i = .tuple #[.pointer (some ⟨g, 0, none⟩), rv t.1 t.2.1, .nilIface]) := by
  rcases hd with ⟨h1, rfl⟩ | ⟨s, h1, ⟨h2, rfl⟩ | ⟨h2, h3, h4, rfl⟩ | ⟨h2, h3, h4, rfl⟩⟩
  · exact Or.inl ⟨by decide, by rw [lk_none'.1 h1]; rfl⟩
  · obtain ⟨g, hx⟩ := lk_some h1
    exact Or.inl ⟨by decide, by rw [hx]; unfold fdR; simp only; rw [if_neg h2]⟩
  · obtain ⟨g, hx⟩ := lk_some h1
    exact Or.inl ⟨by decide, by rw [hx]; unfold fdR; simp only; rw [if_pos ⟨h2, h3⟩, h4]⟩
  · obtain ⟨g, hx⟩ := lk_some h1
    obtain ⟨t, ht⟩ := Option.ne_none_iff_exists'.1 h4
    exact Or.inr ⟨rfl, g, s, t, hx, h1, ht, h2, h3, by rw [hx]; unfold fdR; simp only; rw [if_pos ⟨h2, h3⟩, ht]⟩
set_option maxRecDepth 100000 in
set_option maxHeartbeats 4000000 in
theorem load_any {F : Nat → Prop} {w : World} {p : Nat} {A : Wd} {n pg i code : Int} (h : (FlT p A).In F w) (hn : okI n) (hd : AtD A n pg i code) :
    Calls Try.prog 16 #[.pointer (some ⟨p, 0, none⟩), .int .i64 n, .int .i64 pg, .int .i64 i] w fun e w' => e = .returned (.tuple #[.int .u64 (ldV A n pg i code), errV code]) ∧ Hid (Below w.heap.size w w') := by
  obtain ⟨⟨m, l⟩, ⟨rfl, hok⟩, h⟩ := h
  simp only at h hok hd ⊢
  have hfd := ffind_any (pg := pg) (i := i) h hn
  rcases at_fd hd with ⟨hc, e⟩ | ⟨rfl, g, s, t, hx, hs, ht, hi0, hi8, e⟩
  · rw [e] at hfd
    unfold ldV
    rw [if_neg hc, errV_ne hc]
    unfold rv at hfd
    clear h hok hd e hc
    go_enter Try.func16, Try.ntmps16
    go_wp2_with fail
    refine hfd.mono ?_
    rintro e w1 ⟨rfl, HB1⟩
    have HBE : Hid (Below w.heap.size w (w1.alloc (.cells #[.bool false, .bool false] 31))) := HB1.out.alloc HB1.out.size _
    clear hfd HB1
    go_wp2
    go_ret2
    exact ⟨rfl, HBE⟩
  · rw [e] at hfd
    have hv : ldV (lkP l) n pg i 0 = (s.wd pg.toNat i.toNat : Int) := by
      unfold ldV wdA
      rw [if_pos rfl, hs]
    rw [hv, errV0]
    obtain ⟨G, g1⟩ := fl_see h hx
    obtain ⟨⟨v, M, wb, l0⟩, hf, g1⟩ := g1
    obtain ⟨k1, k2, k3⟩ := pgx_in g1
    try simp only at k1 k2 k3
    have hpg : 0 ≤ pg ∧ pg < 4096 := by
      by_cases c : 0 ≤ pg ∧ pg < 4096
      · exact c
      · have := hf.ok.out pg (by omega)
        rw [ht] at this
        cases this
    obtain ⟨k, rfl⟩ : ∃ k : Nat, pg = k := ⟨pg.toNat, by omega⟩
    obtain ⟨j, rfl⟩ : ∃ j : Nat, i = j := ⟨i.toNat, by omega⟩
    simp only [Int.toNat_natCast]
    have hw := hf.wds k (by omega) (by rw [ht]; simp) j (by omega)
    simp only at hw
    obtain ⟨wv1, hwv⟩ : ∃ x, x = wdOf l0 k := ⟨_, rfl⟩
    have hget : ∀ W, Below w.heap.size w W → (Instr.lookup 83 (.map (some wb)) (.int .i64 k) false).run Try.prog W = .ok (wv wv1) W := fun W hb => by
      rw [hwv]
      exact get_wd (k3.same (hb.block _ k3.lt)) ⟨by omega, by omega⟩
    rw [← hw, ← hwv]
    have hc1 : ∀ W, Below w.heap.size w W → W.cell? ⟨g, 1, none⟩ = some (.map (some wb)) := fun W hb => (hb.cell k1.lt).trans (by rw [k1.cell]; rfl)
    have hjlt : j < 8 := by omega
    have HG : Hid (∀ W, Below w.heap.size w W → (Instr.lookup 83 (.map (some wb)) (.int .i64 k) false).run Try.prog W = .ok (wv wv1) W ∧ W.cell? ⟨g, 1, none⟩ = some (.map (some wb))) := fun W hb => ⟨hget W hb, hc1 W hb⟩
    unfold rv at hfd
    clear h hok hd e hv g1 hf k1 k2 k3 hw hwv hget hc1 hx hs ht
    obtain ⟨tw, tx, th⟩ := t
    simp only at hfd
    go_enter Try.func16, Try.ntmps16
    go_wp2_with fail
    refine hfd.mono ?_
    rintro e w1 ⟨rfl, HB1⟩
    have HBE : Hid (Below w.heap.size w (w1.alloc (.cells #[.bool tw, .bool tx] 31))) := HB1.out.alloc HB1.out.size _
    obtain ⟨q1, q2⟩ := HG.out _ HBE.out
    have q3 := fun w => idx_w8 wv1 hjlt w
    clear hfd HB1 HG
    generalize wv wv1 = arr at *
    go_wp2
    go_ret2
    exact ⟨rfl, HBE⟩
end Go.Proofs.Ytoimmapdkapheaa
