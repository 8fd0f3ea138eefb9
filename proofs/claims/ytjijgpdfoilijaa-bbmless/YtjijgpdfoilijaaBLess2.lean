/- BbmLess: the walk, where a page isn't told. -/
import Derived.Test.YtjijgpdfoilijaaBLess
namespace Go.Proofs.Ytjijgpdfoilijaa
open Go.RowKit

theorem Laid.belowB {B g : Nat} {W w : World} {t : TypeId} {cs : Array Value} (h : Laid W g t cs) (hb : Below B W w) (hg : g < B) : Laid w g t cs := (hb.block g hg).trans h
theorem less_mix {w : World} {g : Nat} {a b : Dsc} (h : Laid w g 37 (dcells a)) : Laid ((w.setCell ⟨g, 4, none⟩ (.bool b.sn)).setCell ⟨g, 6, none⟩ (.int .i64 b.so)) g 37 (dcells (mixD a b)) := by
  have k1 := heap_setCell_same w g 4 _ _ (.bool b.sn) h
  refine (heap_setCell_same _ g 6 _ _ (.int .i64 b.so) k1).trans ?_
  simp [dcells, mixD]
theorem less_turn {w W0 w1 WS : World} {a b : Dsc} {c m c' m' : Nat} {r : Bool} (LA : Laid W0 w.heap.size 37 (dcells a)) (LB : Laid W0 (w.heap.size + 1) 37 (dcells b)) (L0 : Below w.heap.size w W0) (hz : W0.heap.size = w.heap.size + 2) (G : Two W0 w1 c m r [] c' m' false [])
    (hWS : WS = (w1.setCell ⟨w.heap.size, 4, none⟩ (.bool b.sn)).setCell ⟨w.heap.size, 6, none⟩ (.int .i64 b.so)) :
    Hid (TwoB W0.heap.size WS WS c m r [] c' m' false []) ∧ Hid (Laid WS w.heap.size 37 (dcells (mixD a b))) ∧ Hid (Laid WS (w.heap.size + 1) 37 (dcells b)) ∧ Hid (Below w.heap.size w WS) := by
  have k1 : Keeps w1 WS fun c => c = w.heap.size := by
    rw [hWS]
    exact (Keeps.set w1 _ _ _).trans (Keeps.set _ _ _ _) fun _ _ e => e
  have hLB := LB.below G.frame
  refine ⟨G.turn k1 fun c e => by omega, ?_, (k1.block _ hLB.lt (by omega)).trans hLB, ?_⟩
  · rw [hWS]
    exact less_mix (LA.below G.frame)
  · have h1 : Below w.heap.size w w1 := less_end L0 hz G.frame
    exact h1.trans (k1.below h1.size fun c _ e => by omega)
set_option maxRecDepth 100000 in
set_option maxHeartbeats 8000000 in
theorem less_yes (asid lvl t p f skip : Int) (a b : Dsc) (w : World) (hsk : -9223372036854775808 ≤ skip ∧ skip ≤ 9223372036854775807) (hm : mayW asid lvl t p f = true) (hl : lvl ≠ 0) (ha : mayD lvl a = true) (hb : mayD lvl b = true) (hx : ¬ wordD a % 2 = 0) (hy : ¬ wordD b % 2 = 0) :
    Calls Try.prog 4 (LessArgs asid lvl t p f skip a b) w fun e w' => e = .returned (.bool true) ∧ Below w.heap.size w w' := by
  have hWa := fun w => refWord_any lvl a w ha
  have hWb := fun w => refWord_any lvl b w hb
  have hax := wordD_lt ha
  have hby := wordD_lt hb
  have hva := valid_odd hx
  have hvb := valid_odd hy
  obtain ⟨-, -, hlv, A0, A1, t0, t1, p0, p1, f0, f1⟩ := mayW_true hm
  have hal := alike_says ha hb
  have has := alike_self ha
  have hneq := neq_dsc (mixD a b) b
  have hM := fun w => refMayW_any asid lvl t p f w
  have hMa := fun w => refMay_any lvl a w
  have hMb := fun w => refMay_any lvl b w
  obtain ⟨W0, hW0⟩ : ∃ W0, W0 = (w.alloc (.cells #[.int .i64 a.kind, .int .i64 a.frame, .bool a.wr, .bool a.ex, .bool a.sn, .bool a.fo, .int .i64 a.so] 37)).alloc (.cells #[.int .i64 b.kind, .int .i64 b.frame, .bool b.wr, .bool b.ex, .bool b.sn, .bool b.fo, .int .i64 b.so] 37) := ⟨_, rfl⟩
  obtain ⟨LA, LB, L0, hz0⟩ : Hid (Laid W0 w.heap.size 37 (dcells a)) ∧ Hid (Laid W0 (w.heap.size + 1) 37 (dcells b)) ∧ Hid (Below w.heap.size w W0) ∧ Hid (W0.heap.size = w.heap.size + 2) := less_boxes a b w W0 hW0
  unfold LessArgs dv at *
  rw [hm] at hM
  rw [ha] at hMa
  rw [hb] at hMb
  have k1 : (lvl == 0) = false := by simpa using hl
  have k2 := rem_odd hx
  have k3 := rem_odd hy
  generalize wordD a = x at *
  generalize wordD b = y at *
  have hmany := fun w => refMany_any lvl w hlv
  obtain ⟨hmb1, hmb2⟩ := many_bd hlv
  have hpick := fun w => pick_any skip (manyN lvl) w hsk.1 hsk.2 (by omega) (by omega)
  have hsn := pickN_lt skip (manyN lvl) (by omega)
  generalize hs : pickN skip (manyN lvl) = s at *
  have HW1 : Hid (∀ (w1 : World) (c m c' m' : Nat), Two W0 w1 c m false [] c' m' false [] → Calls Try.prog 9 #[.pointer (some ⟨c, 0, none⟩), .int .i64 asid, .int .i64 lvl, .int .i64 t, .int .i64 p, .int .i64 f, .int .u64 x, .int .u64 0] w1 fun e w' => e = .returned .nilIface ∧ Two W0 w' c m false (partV asid t p f x (tkB (manyN lvl) s 0)) c' m' false []) := by
    intro w1 c m c' m' h
    have := h.op fun F hF => vWrite hF asid lvl t p f x 0 hax (by decide) hm
    rwa [(v_open asid lvl t p f hva).1, (v_open asid lvl t p f hva).2, part_open asid lvl t p f x s] at this
  have HW2 : Hid (∀ (w1 : World) (c m c' m' : Nat) (v : View), Two W0 w1 c m false v c' m' false [] → Calls Try.prog 9 #[.pointer (some ⟨c', 0, none⟩), .int .i64 asid, .int .i64 lvl, .int .i64 t, .int .i64 p, .int .i64 f, .int .u64 x, .int .u64 0] w1 fun e w' => e = .returned .nilIface ∧ Two W0 w' c m false v c' m' false (partV asid t p f x (tkB (manyN lvl) s 0))) := by
    intro w1 c m c' m' v h
    have := h.op' fun F hF => vWrite hF asid lvl t p f x 0 hax (by decide) hm
    rwa [(v_open asid lvl t p f hva).1, (v_open asid lvl t p f hva).2, part_open asid lvl t p f x s] at this
  have HT1 : Hid (∀ (k : Nat), k < manyN lvl → k ≠ s → ∀ (w1 : World) (c m c' m' : Nat) (v : View), Two W0 w1 c m false (partV asid t p f x (tkB (manyN lvl) s k)) c' m' false v → Calls Try.prog 12 #[.pointer (some ⟨c, 0, none⟩), .int .i64 asid, .int .i64 (f + (k : Int))] w1 fun e w' => e = .returned (.tuple #[]) ∧ Two W0 w' c m false (partV asid t p f x (tkB (manyN lvl) s (k + 1))) c' m' false v) := by
    intro k hk hks w1 c m c' m' v h
    have := h.op fun F hF => vTold hF asid (f + (k : Int))
    rwa [v_tells asid t p f x hk hks ⟨s, hsn, Or.inr rfl⟩] at this
  have HT2 : Hid (∀ (k : Nat), k < manyN lvl → k ≠ s → ∀ (w1 : World) (c m c' m' : Nat) (v : View), Two W0 w1 c m false v c' m' false (partV asid t p f x (tkB (manyN lvl) s k)) → Calls Try.prog 12 #[.pointer (some ⟨c', 0, none⟩), .int .i64 asid, .int .i64 (f + (k : Int))] w1 fun e w' => e = .returned (.tuple #[]) ∧ Two W0 w' c m false v c' m' false (partV asid t p f x (tkB (manyN lvl) s (k + 1)))) := by
    intro k hk hks w1 c m c' m' v h
    have := h.op' fun F hF => vTold hF asid (f + (k : Int))
    rwa [v_tells asid t p f x hk hks ⟨s, hsn, Or.inr rfl⟩] at this
  have HW3 : Hid (∀ (told : List Bool) (w1 : World) (c m c' m' : Nat) (v : View), Two W0 w1 c m false (partV asid t p f x told) c' m' false v → Calls Try.prog 9 #[.pointer (some ⟨c, 0, none⟩), .int .i64 asid, .int .i64 lvl, .int .i64 t, .int .i64 p, .int .i64 f, .int .u64 0, .int .u64 y] w1 fun e w' => e = .returned .nilIface ∧ Two W0 w' c m (!eqD (mixD a b) b) [] c' m' false v) := by
    intro told w1 c m c' m' v h
    have := h.op fun F hF => vWrite hF asid lvl t p f 0 y (by decide) hby hm
    rwa [(v_closes asid lvl t p f x hvb told).1, (v_closes asid lvl t p f x hvb told).2, hal] at this
  have HW4 : Hid (∀ (told : List Bool) (w1 : World) (c m c' m' : Nat) (r : Bool) (v : View), Two W0 w1 c m r v c' m' false (partV asid t p f x told) → Calls Try.prog 9 #[.pointer (some ⟨c', 0, none⟩), .int .i64 asid, .int .i64 lvl, .int .i64 t, .int .i64 p, .int .i64 f, .int .u64 0, .int .u64 x] w1 fun e w' => e = .returned .nilIface ∧ Two W0 w' c m r v c' m' false []) := by
    intro told w1 c m c' m' r v h
    have := h.op' fun F hF => vWrite hF asid lvl t p f 0 x (by decide) hax hm
    rwa [(v_closes asid lvl t p f x hva told).1, (v_closes asid lvl t p f x hva told).2, has] at this
  have HS : Hid (∀ (B : Nat) (WS w1 : World) (c m c' m' : Nat) (r : Bool), TwoB B WS w1 c m r [] c' m' false [] → Calls Try.prog 10 #[.pointer (some ⟨c, 0, none⟩), .int .i64 asid] w1 fun e w' => e = .returned (.tuple #[]) ∧ TwoB B WS w' c m r [] c' m' false []) := by
    intro B WS w1 c m c' m' r h
    exact h.op fun F hF => vSpace hF asid
  have HW5 : Hid (∀ (B : Nat) (WS w1 : World) (c m c' m' : Nat) (r : Bool), TwoB B WS w1 c m r [] c' m' false [] → Calls Try.prog 9 #[.pointer (some ⟨c, 0, none⟩), .int .i64 asid, .int .i64 lvl, .int .i64 t, .int .i64 p, .int .i64 f, .int .u64 y, .int .u64 0] w1 fun e w' => e = .returned .nilIface ∧ TwoB B WS w' c m r (openV asid lvl t p f y) c' m' false []) := by
    intro B WS w1 c m c' m' r h
    have := h.op fun F hF => vWrite hF asid lvl t p f y 0 hby (by decide) hm
    rwa [(v_openB r asid lvl t p f hvb).1, (v_openB r asid lvl t p f hvb).2] at this
  generalize eqD (mixD a b) b = r at *
  unfold mixD at hneq
  simp only at hneq
  generalize manyN lvl = n at *
  have HFB : Hid (0 ≤ f ∧ f < 4096) := ⟨f0, f1⟩
  have HSN : Hid (s < n) := hsn
  clear hl hm ha hb hx hy hax hby hva hvb hal has A0 A1 t0 t1 p0 p1 f0 f1 hlv hsk hs hsn
  go_enter Try.func4, Try.ntmps4
  go_wp2_with fail
  rw [← hW0]
  clear hW0
  refine (upW_any _).mono ?_
  rintro e w1 ⟨rfl, hb1⟩
  go_wp2_with fail
  refine (oneNew hb1).mono ?_
  rintro e w2 ⟨c, m, rfl, h2⟩
  have G2 : Hid (One W0 w2 c m false []) := h2
  clear h2 hb1
  go_wp2_with fail
  refine (twoNew G2.out).mono ?_
  rintro e w3 ⟨c', m', rfl, h3⟩
  have G3 : Hid (Two W0 w3 c m false [] c' m' false []) := h3
  clear h3 G2
  obtain ⟨a0, a1, a2, a3, a4, a5, a6, -⟩ := desc_cells (LA.out.below G3.out.frame)
  obtain ⟨b0, b1, b2, b3, b4, b5, b6, -⟩ := desc_cells (LB.out.below G3.out.frame)
  go_wp2_with fail
  refine (hM _).mono ?_
  rintro e w4 ⟨rfl, hw⟩
  obtain rfl := hw.symm
  clear hw
  go_wp2_with fail
  refine (hMa _).mono ?_
  rintro e w4 ⟨rfl, hb⟩
  have G4 : Hid (Two W0 w4 c m false [] c' m' false []) := G3.out.below hb
  clear hb G3
  clear a0 a1 a2 a3 a4 a5 a6 b0 b1 b2 b3 b4 b5 b6
  obtain ⟨a0, a1, a2, a3, a4, a5, a6, -⟩ := desc_cells (LA.out.below G4.out.frame)
  obtain ⟨b0, b1, b2, b3, b4, b5, b6, -⟩ := desc_cells (LB.out.below G4.out.frame)
  go_wp2_with fail
  refine (hMb _).mono ?_
  rintro e w5 ⟨rfl, hb⟩
  have G5 : Hid (Two W0 w5 c m false [] c' m' false []) := G4.out.below hb
  clear hb G4
  clear a0 a1 a2 a3 a4 a5 a6 b0 b1 b2 b3 b4 b5 b6
  obtain ⟨a0, a1, a2, a3, a4, a5, a6, -⟩ := desc_cells (LA.out.below G5.out.frame)
  obtain ⟨b0, b1, b2, b3, b4, b5, b6, -⟩ := desc_cells (LB.out.below G5.out.frame)
  go_wp2_with fail
  refine (hWa _).mono ?_
  rintro e w6 ⟨rfl, hb⟩
  have G6 : Hid (Two W0 w6 c m false [] c' m' false []) := G5.out.below hb
  clear hb G5
  clear a0 a1 a2 a3 a4 a5 a6 b0 b1 b2 b3 b4 b5 b6
  obtain ⟨a0, a1, a2, a3, a4, a5, a6, -⟩ := desc_cells (LA.out.below G6.out.frame)
  obtain ⟨b0, b1, b2, b3, b4, b5, b6, -⟩ := desc_cells (LB.out.below G6.out.frame)
  go_wp2_with fail
  refine (hWb _).mono ?_
  rintro e w7 ⟨rfl, hb⟩
  have G7 : Hid (Two W0 w7 c m false [] c' m' false []) := G6.out.below hb
  clear hb G6
  clear a0 a1 a2 a3 a4 a5 a6 b0 b1 b2 b3 b4 b5 b6
  go_wp2_with fail
  refine (hmany _).mono ?_
  rintro e w8 ⟨rfl, hw⟩
  obtain rfl := hw.symm
  clear hw
  go_wp2_with fail
  refine (hpick _).mono ?_
  rintro e w8 ⟨rfl, hw⟩
  obtain rfl := hw.symm
  clear hw
  go_wp2_with fail
  refine (HW1.out _ _ _ _ _ G7.out).mono ?_
  rintro e w8 ⟨rfl, h8⟩
  have G8 : Hid (Two W0 w8 c m false (partV asid t p f x (tkB n s 0)) c' m' false []) := h8
  clear h8 G7 HW1
  go_wp2_with fail
  refine (HW2.out _ _ _ _ _ _ G8.out).mono ?_
  rintro e w9 ⟨rfl, h9⟩
  have G9 : Hid (Two W0 w9 c m false (partV asid t p f x (tkB n s 0)) c' m' false (partV asid t p f x (tkB n s 0))) := h9
  clear h9 G8 HW2
  go_wp2_with fail
  go_loopw [24] (fun i W => ∃ k : Nat, k ≤ n ∧ i = .int .i64 k ∧ Hid (Two W0 W c m false (partV asid t p f x (tkB n s k)) c' m' false (partV asid t p f x (tkB n s k)))) (fun i _ => n - (intOf i).toNat)
  case atStart => exact ⟨0, Nat.zero_le _, rfl, G9.out⟩
  case round =>
    obtain ⟨k, hk, rfl, G10⟩ := hrel
    clear G9
    by_cases hkn : k < n
    · have hkz : (k : Int) < (n : Int) := by omega
      have e1 : IntKind.i64.wrap (f + (k : Int)) = f + (k : Int) := IntWalk.i64_in _ (by have := HFB.out; omega)
      by_cases hks : k = s
      · have hksz : ((k : Int) != (s : Int)) = false := by simp [hks]
        have G11 : Hid (Two W0 wr c m false (partV asid t p f x (tkB n s (k + 1))) c' m' false (partV asid t p f x (tkB n s (k + 1)))) := by
          rw [hks, tk_skip, ← hks]
          have := G10.out
          rwa [hks, ← hks] at this
        clear G10 hks
        go_wp2
        go_roundw
        case rel => exact ⟨k + 1, by omega, by go_num, G11.out⟩
        case measure => simp [intOf]; omega
      · have hksz : ((k : Int) != (s : Int)) = true := by rw [bne_iff_ne]; omega
        go_wp2_with fail
        refine (HT1.out k hkn hks _ _ _ _ _ _ G10.out).mono ?_
        rintro e w11 ⟨rfl, h11⟩
        have G11 : Hid (Two W0 w11 c m false (partV asid t p f x (tkB n s (k + 1))) c' m' false (partV asid t p f x (tkB n s k))) := h11
        clear h11 G10
        go_wp2_with fail
        refine (HT2.out k hkn hks _ _ _ _ _ _ G11.out).mono ?_
        rintro e w12 ⟨rfl, h12⟩
        have G12 : Hid (Two W0 w12 c m false (partV asid t p f x (tkB n s (k + 1))) c' m' false (partV asid t p f x (tkB n s (k + 1)))) := h12
        clear h12 G11
        go_wp2
        go_roundw
        case rel => exact ⟨k + 1, by omega, by go_num, G12.out⟩
        case measure => simp [intOf]; omega
    · obtain rfl : k = n := by omega
      have hkz : ¬ (k : Int) < (k : Int) := by omega
      have q1 := G10.out.ask fun F hF => vOpen hF
      have q2 := G10.out.ask fun F hF => vBroken hF
      rw [show (partV asid t p f x (tkB k s k)).length = 1 from rfl] at q1
      clear HT1 HT2 hk hkn
      go_wp2_with fail
      refine q1.mono ?_
      rintro e w8 ⟨rfl, hw⟩
      obtain rfl := hw.symm
      clear hw
      go_wp2_with fail
      refine q2.mono ?_
      rintro e w8 ⟨rfl, hw⟩
      obtain rfl := hw.symm
      clear hw q1 q2
      go_wp2_with fail
      refine (HW3.out _ _ _ _ _ _ _ G10.out).mono ?_
      rintro e w11 ⟨rfl, h11⟩
      have G11 : Hid (Two W0 w11 c m (!r) [] c' m' false (partV asid t p f x (tkB k s k))) := h11
      clear h11 G10 HW3
      go_wp2_with fail
      refine (HW4.out _ _ _ _ _ _ _ _ G11.out).mono ?_
      rintro e w12 ⟨rfl, h12⟩
      have G12 : Hid (Two W0 w12 c m (!r) [] c' m' false []) := h12
      clear h12 G11 HW4
      obtain ⟨a0, a1, a2, a3, a4, a5, a6, az⟩ := desc_cells (LA.out.below G12.out.frame)
      obtain ⟨b0, b1, b2, b3, b4, b5, b6, -⟩ := desc_cells (LB.out.below G12.out.frame)
      go_wp2_with fail
      obtain ⟨WS, hWS⟩ : ∃ WS, WS = (w12.setCell ⟨w.heap.size, 4, none⟩ (.bool b.sn)).setCell ⟨w.heap.size, 6, none⟩ (.int .i64 b.so) := ⟨_, rfl⟩
      rw [← hWS]
      obtain ⟨G13, LA', LB', L1⟩ := less_turn LA.out LB.out L0.out hz0.out G12.out hWS
      clear hWS G12 LA LB L0 a0 a1 a2 a3 a4 a5 a6 az b0 b1 b2 b3 b4 b5 b6
      have q1 := G13.out.ask fun F hF => vBroken hF
      refine q1.mono ?_
      rintro e w8 ⟨rfl, hw⟩
      obtain rfl := hw.symm
      clear hw q1
      go_wp2_with fail
      refine (HS.out _ _ _ _ _ _ _ _ G13.out).mono ?_
      rintro e w14 ⟨rfl, h14⟩
      have G14 : Hid (TwoB W0.heap.size WS w14 c m (!r) [] c' m' false []) := h14
      clear h14 G13 HS
      go_wp2_with fail
      refine (HW5.out _ _ _ _ _ _ _ _ G14.out).mono ?_
      rintro e w15 ⟨rfl, h15⟩
      have G15 : Hid (TwoB W0.heap.size WS w15 c m (!r) (openV asid lvl t p f y) c' m' false []) := h15
      clear h15 G14 HW5
      obtain ⟨a0, a1, a2, a3, a4, a5, a6, -⟩ := desc_cells (LA'.out.belowB G15.out.frame (by have := hz0.out; omega))
      obtain ⟨b0, b1, b2, b3, b4, b5, b6, -⟩ := desc_cells (LB'.out.belowB G15.out.frame (by have := hz0.out; omega))
      simp only [mixD] at a0 a1 a2 a3 a4 a5 a6
      have q1 := G15.out.ask fun F hF => vBroken hF
      have q2 := G15.out.swap.ask fun F hF => vBroken hF
      have q3 := G15.out.swap.ask fun F hF => vOpen hF
      go_wp2_with fail
      refine q1.mono ?_
      rintro e w8 ⟨rfl, hw⟩
      obtain rfl := hw.symm
      clear hw q1
      go_wp2_with fail
      refine q2.mono ?_
      rintro e w8 ⟨rfl, hw⟩
      obtain rfl := hw.symm
      clear hw q2
      go_wp2_with fail
      refine q3.mono ?_
      rintro e w8 ⟨rfl, hw⟩
      obtain rfl := hw.symm
      clear hw q3
      go_wp2
      go_ret
      exact ⟨rfl, L1.out.trans (G15.out.frame.mono (by have := hz0.out; omega))⟩
end Go.Proofs.Ytjijgpdfoilijaa
