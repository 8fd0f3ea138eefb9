/- AreaFinds, walked (printed by tools/gen/gen_finds9.py). -/
import Derived.Test.YtaeodbeodacmaaaARgb
import Derived.Test.YtaeodbeodacmaaaALwR
namespace Go.Proofs.Ytaeodbeodacmaaa
open Go.RowKit

/-- An area that lies in a block of its own. -/
def Fx (w W : World) (g : Nat) (d : AAr) : Prop := Below w.heap.size w W ∧ Laid W g 32 d.arr
theorem Fx.below {w W W' : World} {g : Nat} {d : AAr} (h : Fx w W g d) (hb : Below W.heap.size W W') : Fx w W' g d := ⟨below_call' h.1 hb, h.2.below hb⟩
theorem Fx.new {w W : World} (h : Below w.heap.size w W) (d : AAr) : Fx w (W.alloc (.cells d.arr 32)) W.heap.size d := ⟨below_call' h (new_below _ _), Laid.new _ _ _⟩
theorem find_bad {L : List AAr} {p : Int} (hM : ¬ MayA L) (w : World) (ao : Option Addr) (c : Nat) (hs : Sn rAAr w ao L) (hm : L.length ≤ maxLen) :
    Calls Try.prog 15 #[.slice ao L.length c, .int .i64 p] w fun e w' => e = .returned (.tuple #[.agg #[.int .i64 0, .int .i64 0, .bool false, .bool false, .bool false], .iface 28 (.int .i64 1)]) ∧ Hid (Below w.heap.size w w') := by
  obtain ⟨r, s, q⟩ := find_tell L p
  rcases s with ⟨_, rfl⟩ | ⟨k, _⟩ | ⟨k, _⟩
  · exact q w ao c hs hm
  · exact absurd k hM
  · exact absurd k hM
theorem room_bad {L : List AAr} {n : Int} (h : ¬ (MayA L ∧ 1 ≤ n)) (w : World) (ao : Option Addr) (c : Nat) (hs : Sn rAAr w ao L) (hm : L.length ≤ maxLen) :
    Calls Try.prog 16 #[.slice ao L.length c, .int .i64 n] w fun e w' => e = .returned (.tuple #[.int .i64 0, .iface 28 (.int .i64 1)]) ∧ Hid (Below w.heap.size w w') :=
  (room_any hs hm n).mono fun e w' ⟨k, hb⟩ => by
    rcases k with ⟨k, _⟩ | ⟨_, k⟩
    · exact absurd k h
    · exact ⟨k, hb⟩
theorem room_good {L : List AAr} {n z : Int} (h : MayA L ∧ 1 ≤ n) (hz : RoomP (ownA L) n z) (w : World) (ao : Option Addr) (c : Nat) (hs : Sn rAAr w ao L) (hm : L.length ≤ maxLen) :
    Calls Try.prog 16 #[.slice ao L.length c, .int .i64 n] w fun e w' => e = .returned (rmV z) ∧ Hid (Below w.heap.size w w') :=
  (room_any hs hm n).mono fun e w' ⟨k, hb⟩ => by
    rcases k with ⟨_, k⟩ | ⟨k, _⟩
    · rw [(rm_spec h.1.2 h.2).uniq hz] at k
      exact ⟨k, hb⟩
    · exact absurd h k
theorem room_no {L : List AAr} {n : Int} (h : MayA L ∧ 1 ≤ n) (hz : RoomP (ownA L) n (-1)) (w : World) (ao : Option Addr) (c : Nat) (hs : Sn rAAr w ao L) (hm : L.length ≤ maxLen) :
    Calls Try.prog 16 #[.slice ao L.length c, .int .i64 n] w fun e w' => e = .returned (.tuple #[.int .i64 0, .iface 28 (.int .i64 5)]) ∧ Hid (Below w.heap.size w w') := room_good h hz w ao c hs hm
theorem room_at {L : List AAr} {n : Int} {z : Nat} (h : MayA L ∧ 1 ≤ n) (hz : RoomP (ownA L) n z) (w : World) (ao : Option Addr) (c : Nat) (hs : Sn rAAr w ao L) (hm : L.length ≤ maxLen) :
    Calls Try.prog 16 #[.slice ao L.length c, .int .i64 n] w fun e w' => e = .returned (.tuple #[.int .i64 z, .nilIface]) ∧ Hid (Below w.heap.size w w') := by
  have := room_good h hz w ao c hs hm
  rwa [rmV_at (by omega)] at this
theorem room_ways {L : List AAr} (hM : MayA L) (n : Int) : n < 1 ∨ (1 ≤ n ∧ RoomP (ownA L) n (-1)) ∨ (1 ≤ n ∧ ∃ z : Nat, RoomP (ownA L) n z) := by
  by_cases h : 1 ≤ n
  · have hz := rm_spec hM.2 h
    generalize rmA n 0 L = z at hz
    rcases hz with hz | ⟨rfl, hz⟩
    · refine Or.inr (Or.inr ⟨h, z.toNat, ?_⟩)
      rw [show ((z.toNat : Nat) : Int) = z by have := hz.1.1; omega]
      exact Or.inl hz
    · exact Or.inr (Or.inl ⟨h, Or.inr ⟨rfl, hz⟩⟩)
  · exact Or.inl (by omega)
theorem of_cells {w : World} {g c k : Nat} {B : Nat} {f : Int → Option Pg} (h : Row rAPg B w (.slice (some ⟨g, 0, none⟩) 4096 c) (pagesA f)) (hk : k < 4096) : w.cell? ⟨g, k * 4, none⟩ = some (.bool (pgA (f k)).is) ∧ w.cell? ⟨g, k * 4 + 1, none⟩ = some (.bool (pgA (f k)).w) ∧ w.cell? ⟨g, k * 4 + 2, none⟩ = some (.bool (pgA (f k)).x) ∧ w.cell? ⟨g, k * 4 + 3, none⟩ = some (.bool (pgA (f k)).h) := by
  obtain ⟨g', e', _, _, _, _, _, hat⟩ := h.at (show k < _ by rw [pages_len]; exact hk)
  cases e'
  rw [show rAPg.zero = APg.zero from rfl, pages_get _ hk] at hat
  exact APg.at hat
theorem eqz (w : World) : (binOp .eql 32 (.agg #[.int .i64 0, .int .i64 0, .bool false, .bool false, .bool false]) (.agg #[.int .i64 0, .int .i64 0, .bool false, .bool false, .bool false])).run Try.prog w = .ok (.bool true) w := by
  have := eql_ar AAr.zero AAr.zero w
  rw [eqA_self] at this
  exact this

set_option maxRecDepth 100000 in
set_option maxHeartbeats 16000000 in
theorem finds_bad {w : World} {ao : Option Addr} {c : Nat} {L : List AAr} (hs : Sn rAAr w ao L) (hm : L.length ≤ maxLen) (h200 : L.length ≤ 200) (p n : Int) (hM : ¬ MayA L) :
    Calls Try.prog 4 #[.slice ao L.length c, .int .i64 p, .int .i64 n] w fun e w' => e = .returned (.bool true) ∧ Below w.heap.size w w' := by
  have hU := up_any w
  have he1 := eq_code 1 1
  rw [beq_self_eq_true] at he1
  have he3 := eq_code 3 3
  rw [beq_self_eq_true] at he3
  have hn1 := neq_err 1
  have hn5 := neq_err 5
  have hz := eqz
  have HS : Hid (Sn rAAr w ao L) := hs
  have HM : Hid (L.length ≤ maxLen) := hm
  have h200z : ¬ (200 : Int) < (L.length : Int) := by omega
  have hm' : L.length ≤ 9223372036854775807 := by unfold maxLen at hm; omega
  clear hs hm
  have hF := fun w ao c => find_bad (L := L) (p := p) hM w ao c
  have HMB : Hid (¬ MayA L) := hM
  clear hM
  go_enter Try.func4, Try.ntmps4
  go_wp2_with fail
  refine hU.mono ?_
  rintro e w1 ⟨rfl, hb1⟩
  have HB1 : Hid (Below w.heap.size w w1) := hb1
  have hf := hF w1 ao c (HS.out.below hb1) HM.out
  clear hU hb1 hF
  go_wp2_with fail
  refine hf.mono ?_
  rintro e w2 ⟨rfl, hb2⟩
  have H2 : Hid (Fx w (w2.alloc (.cells #[.int .i64 0, .int .i64 0, .bool false, .bool false, .bool false] 32)) w2.heap.size ⟨0, 0, false, false, false⟩) := Fx.new (below_call' HB1.out hb2.out) ⟨0, 0, false, false, false⟩
  have hr := room_bad (n := n) (fun h => HMB.out h.1) (w2.alloc (.cells #[.int .i64 0, .int .i64 0, .bool false, .bool false, .bool false] 32)) ao c (HS.out.below H2.out.1) HM.out
  clear hf hb2
  go_wp2_with fail
  refine hr.mono ?_
  rintro e w3 ⟨rfl, hb3⟩
  have H3 : Hid (Fx w w3 w2.heap.size ⟨0, 0, false, false, false⟩) := H2.out.below hb3.out
  have hy := may_no HMB.out w3 ao c (HS.out.below H3.out.1) HM.out
  clear hr hb3 H2
  go_wp2_with fail
  refine hy.mono ?_
  rintro e w4 ⟨rfl, hb4⟩
  have H4 : Hid (Fx w w4 w2.heap.size ⟨0, 0, false, false, false⟩) := H3.out.below hb4
  clear hy hb4 H3
  obtain ⟨c0, c1, c2, c3, c4⟩ := AAr.laid (d := ⟨0, 0, false, false, false⟩) (H4.out.2)
  simp only at c0 c1 c2 c3 c4
  go_wp2
  go_ret
  exact ⟨rfl, H4.out.1⟩
set_option maxRecDepth 100000 in
set_option maxHeartbeats 16000000 in
theorem finds_low {w : World} {ao : Option Addr} {c : Nat} {L : List AAr} (hs : Sn rAAr w ao L) (hm : L.length ≤ maxLen) (h200 : L.length ≤ 200) (p n : Int) (hM : MayA L) (hp : p < 0) :
    Calls Try.prog 4 #[.slice ao L.length c, .int .i64 p, .int .i64 n] w fun e w' => e = .returned (.bool true) ∧ Below w.heap.size w w' := by
  have hU := up_any w
  have he1 := eq_code 1 1
  rw [beq_self_eq_true] at he1
  have he3 := eq_code 3 3
  rw [beq_self_eq_true] at he3
  have hn1 := neq_err 1
  have hn5 := neq_err 5
  have hz := eqz
  have HS : Hid (Sn rAAr w ao L) := hs
  have HM : Hid (L.length ≤ maxLen) := hm
  have h200z : ¬ (200 : Int) < (L.length : Int) := by omega
  have hm' : L.length ≤ 9223372036854775807 := by unfold maxLen at hm; omega
  clear hs hm
  have hF := fun w ao c => find_none (L := L) (p := p) hM (nrm_own hM.2 (Or.inl hp)) w ao c
  have HMY : Hid (MayA L) := hM
  clear hM
  go_enter Try.func4, Try.ntmps4
  go_wp2_with fail
  refine hU.mono ?_
  rintro e w1 ⟨rfl, hb1⟩
  have HB1 : Hid (Below w.heap.size w w1) := hb1
  have hf := hF w1 ao c (HS.out.below hb1) HM.out
  clear hU hb1 hF
  go_wp2_with fail
  refine hf.mono ?_
  rintro e w2 ⟨rfl, hb2⟩
  have H2 : Hid (Fx w (w2.alloc (.cells #[.int .i64 0, .int .i64 0, .bool false, .bool false, .bool false] 32)) w2.heap.size ⟨0, 0, false, false, false⟩) := Fx.new (below_call' HB1.out hb2.out) ⟨0, 0, false, false, false⟩
  clear hf hb2
  have hways := room_ways HMY.out n
  go_wp2_with fail
  rcases hways with hn | ⟨hn, hZ⟩ | ⟨hn, z, hZ⟩
  · as_aux_lemma =>
    have hr := room_bad (L := L) (n := n) (fun h => by have := h.2; omega) (w2.alloc (.cells #[.int .i64 0, .int .i64 0, .bool false, .bool false, .bool false] 32)) ao c (HS.out.below H2.out.1) HM.out
    refine hr.mono ?_
    rintro e w3 ⟨rfl, hb3⟩
    have H3 : Hid (Fx w w3 w2.heap.size ⟨0, 0, false, false, false⟩) := H2.out.below hb3.out
    have hy := may_yes HMY.out w3 ao c (HS.out.below H3.out.1) HM.out
    clear hr hb3 H2
    go_wp2_with fail
    refine hy.mono ?_
    rintro e w4 ⟨rfl, hb4⟩
    have H4 : Hid (Fx w w4 w2.heap.size ⟨0, 0, false, false, false⟩) := H3.out.below hb4
    have hO := of_any (c := c) (HS.out.below H4.out.1) HMY.out
    clear hy hb4 H3
    go_wp2_with fail
    refine hO.mono ?_
    rintro e w5 ⟨rfl, P5, hb5⟩
    have H5 : Hid (Fx w w5 w2.heap.size ⟨0, 0, false, false, false⟩) := H4.out.below hb5
    have HP5 : Hid (Row rAPg w4.heap.size w5 (.slice (some ⟨w4.heap.size, 0, none⟩) 4096 4096) (pagesA (ownA L))) := P5
    obtain ⟨g1, hg1⟩ : ∃ g1, w4.heap.size = g1 := ⟨_, rfl⟩
    rw [hg1] at HP5
    rw [hg1]
    clear hO P5 hb5 H4
    obtain ⟨c0, c1, c2, c3, c4⟩ := AAr.laid (d := ⟨0, 0, false, false, false⟩) (H5.out.2)
    simp only at c0 c1 c2 c3 c4
    clear HP5 hg1
    go_wp2
    go_ret
    exact ⟨rfl, H5.out.1⟩
  · as_aux_lemma =>
    have hr := room_no (L := L) (n := n) ⟨HMY.out, hn⟩ hZ (w2.alloc (.cells #[.int .i64 0, .int .i64 0, .bool false, .bool false, .bool false] 32)) ao c (HS.out.below H2.out.1) HM.out
    have HZ : Hid (RoomP (ownA L) n (-1)) := hZ
    clear hZ
    refine hr.mono ?_
    rintro e w3 ⟨rfl, hb3⟩
    have H3 : Hid (Fx w w3 w2.heap.size ⟨0, 0, false, false, false⟩) := H2.out.below hb3.out
    have hy := may_yes HMY.out w3 ao c (HS.out.below H3.out.1) HM.out
    clear hr hb3 H2
    go_wp2_with fail
    refine hy.mono ?_
    rintro e w4 ⟨rfl, hb4⟩
    have H4 : Hid (Fx w w4 w2.heap.size ⟨0, 0, false, false, false⟩) := H3.out.below hb4
    have hO := of_any (c := c) (HS.out.below H4.out.1) HMY.out
    clear hy hb4 H3
    go_wp2_with fail
    refine hO.mono ?_
    rintro e w5 ⟨rfl, P5, hb5⟩
    have H5 : Hid (Fx w w5 w2.heap.size ⟨0, 0, false, false, false⟩) := H4.out.below hb5
    have HP5 : Hid (Row rAPg w4.heap.size w5 (.slice (some ⟨w4.heap.size, 0, none⟩) 4096 4096) (pagesA (ownA L))) := P5
    obtain ⟨g1, hg1⟩ : ∃ g1, w4.heap.size = g1 := ⟨_, rfl⟩
    rw [hg1] at HP5
    rw [hg1]
    clear hO P5 hb5 H4
    have hq := rroom_any (c := 4096) HP5.out.sn n (-1) hn HZ.out
    have hn' : ¬ n < 1 := by omega
    go_wp2_with fail
    refine hq.mono ?_
    rintro e w6 ⟨rfl, hw6⟩
    obtain rfl := hw6.symm
    clear hw6 hq HZ
    obtain ⟨c0, c1, c2, c3, c4⟩ := AAr.laid (d := ⟨0, 0, false, false, false⟩) (H5.out.2)
    simp only at c0 c1 c2 c3 c4
    clear HP5 hg1
    go_wp2
    go_ret
    exact ⟨rfl, H5.out.1⟩
  · as_aux_lemma =>
    have hr := room_at (L := L) (n := n) (z := z) ⟨HMY.out, hn⟩ hZ (w2.alloc (.cells #[.int .i64 0, .int .i64 0, .bool false, .bool false, .bool false] 32)) ao c (HS.out.below H2.out.1) HM.out
    have HZ : Hid (RoomP (ownA L) n z) := hZ
    clear hZ
    refine hr.mono ?_
    rintro e w3 ⟨rfl, hb3⟩
    have H3 : Hid (Fx w w3 w2.heap.size ⟨0, 0, false, false, false⟩) := H2.out.below hb3.out
    have hy := may_yes HMY.out w3 ao c (HS.out.below H3.out.1) HM.out
    clear hr hb3 H2
    go_wp2_with fail
    refine hy.mono ?_
    rintro e w4 ⟨rfl, hb4⟩
    have H4 : Hid (Fx w w4 w2.heap.size ⟨0, 0, false, false, false⟩) := H3.out.below hb4
    have hO := of_any (c := c) (HS.out.below H4.out.1) HMY.out
    clear hy hb4 H3
    go_wp2_with fail
    refine hO.mono ?_
    rintro e w5 ⟨rfl, P5, hb5⟩
    have H5 : Hid (Fx w w5 w2.heap.size ⟨0, 0, false, false, false⟩) := H4.out.below hb5
    have HP5 : Hid (Row rAPg w4.heap.size w5 (.slice (some ⟨w4.heap.size, 0, none⟩) 4096 4096) (pagesA (ownA L))) := P5
    obtain ⟨g1, hg1⟩ : ∃ g1, w4.heap.size = g1 := ⟨_, rfl⟩
    rw [hg1] at HP5
    rw [hg1]
    clear hO P5 hb5 H4
    have hq := rroom_any (c := 4096) HP5.out.sn n z hn HZ.out
    have hn' : ¬ n < 1 := by omega
    go_wp2_with fail
    refine hq.mono ?_
    rintro e w6 ⟨rfl, hw6⟩
    obtain rfl := hw6.symm
    clear hw6 hq HZ
    have hz0 : ¬ (z : Int) < 0 := by omega
    have hz1 : (0 : Int) ≤ (z : Int) := by omega
    obtain ⟨c0, c1, c2, c3, c4⟩ := AAr.laid (d := ⟨0, 0, false, false, false⟩) (H5.out.2)
    simp only at c0 c1 c2 c3 c4
    clear HP5 hg1
    go_wp2
    go_ret
    exact ⟨rfl, H5.out.1⟩
set_option maxRecDepth 100000 in
set_option maxHeartbeats 16000000 in
theorem finds_high {w : World} {ao : Option Addr} {c : Nat} {L : List AAr} (hs : Sn rAAr w ao L) (hm : L.length ≤ maxLen) (h200 : L.length ≤ 200) (p n : Int) (hM : MayA L) (hp : 4095 < p) :
    Calls Try.prog 4 #[.slice ao L.length c, .int .i64 p, .int .i64 n] w fun e w' => e = .returned (.bool true) ∧ Below w.heap.size w w' := by
  have hU := up_any w
  have he1 := eq_code 1 1
  rw [beq_self_eq_true] at he1
  have he3 := eq_code 3 3
  rw [beq_self_eq_true] at he3
  have hn1 := neq_err 1
  have hn5 := neq_err 5
  have hz := eqz
  have HS : Hid (Sn rAAr w ao L) := hs
  have HM : Hid (L.length ≤ maxLen) := hm
  have h200z : ¬ (200 : Int) < (L.length : Int) := by omega
  have hm' : L.length ≤ 9223372036854775807 := by unfold maxLen at hm; omega
  clear hs hm
  have hF := fun w ao c => find_none (L := L) (p := p) hM (nrm_own hM.2 (Or.inr (by omega))) w ao c
  have HMY : Hid (MayA L) := hM
  have hp2 : ¬ p < 0 := by omega
  clear hM
  go_enter Try.func4, Try.ntmps4
  go_wp2_with fail
  refine hU.mono ?_
  rintro e w1 ⟨rfl, hb1⟩
  have HB1 : Hid (Below w.heap.size w w1) := hb1
  have hf := hF w1 ao c (HS.out.below hb1) HM.out
  clear hU hb1 hF
  go_wp2_with fail
  refine hf.mono ?_
  rintro e w2 ⟨rfl, hb2⟩
  have H2 : Hid (Fx w (w2.alloc (.cells #[.int .i64 0, .int .i64 0, .bool false, .bool false, .bool false] 32)) w2.heap.size ⟨0, 0, false, false, false⟩) := Fx.new (below_call' HB1.out hb2.out) ⟨0, 0, false, false, false⟩
  clear hf hb2
  have hways := room_ways HMY.out n
  go_wp2_with fail
  rcases hways with hn | ⟨hn, hZ⟩ | ⟨hn, z, hZ⟩
  · as_aux_lemma =>
    have hr := room_bad (L := L) (n := n) (fun h => by have := h.2; omega) (w2.alloc (.cells #[.int .i64 0, .int .i64 0, .bool false, .bool false, .bool false] 32)) ao c (HS.out.below H2.out.1) HM.out
    refine hr.mono ?_
    rintro e w3 ⟨rfl, hb3⟩
    have H3 : Hid (Fx w w3 w2.heap.size ⟨0, 0, false, false, false⟩) := H2.out.below hb3.out
    have hy := may_yes HMY.out w3 ao c (HS.out.below H3.out.1) HM.out
    clear hr hb3 H2
    go_wp2_with fail
    refine hy.mono ?_
    rintro e w4 ⟨rfl, hb4⟩
    have H4 : Hid (Fx w w4 w2.heap.size ⟨0, 0, false, false, false⟩) := H3.out.below hb4
    have hO := of_any (c := c) (HS.out.below H4.out.1) HMY.out
    clear hy hb4 H3
    go_wp2_with fail
    refine hO.mono ?_
    rintro e w5 ⟨rfl, P5, hb5⟩
    have H5 : Hid (Fx w w5 w2.heap.size ⟨0, 0, false, false, false⟩) := H4.out.below hb5
    have HP5 : Hid (Row rAPg w4.heap.size w5 (.slice (some ⟨w4.heap.size, 0, none⟩) 4096 4096) (pagesA (ownA L))) := P5
    obtain ⟨g1, hg1⟩ : ∃ g1, w4.heap.size = g1 := ⟨_, rfl⟩
    rw [hg1] at HP5
    rw [hg1]
    clear hO P5 hb5 H4
    obtain ⟨c0, c1, c2, c3, c4⟩ := AAr.laid (d := ⟨0, 0, false, false, false⟩) (H5.out.2)
    simp only at c0 c1 c2 c3 c4
    clear HP5 hg1
    go_wp2
    go_ret
    exact ⟨rfl, H5.out.1⟩
  · as_aux_lemma =>
    have hr := room_no (L := L) (n := n) ⟨HMY.out, hn⟩ hZ (w2.alloc (.cells #[.int .i64 0, .int .i64 0, .bool false, .bool false, .bool false] 32)) ao c (HS.out.below H2.out.1) HM.out
    have HZ : Hid (RoomP (ownA L) n (-1)) := hZ
    clear hZ
    refine hr.mono ?_
    rintro e w3 ⟨rfl, hb3⟩
    have H3 : Hid (Fx w w3 w2.heap.size ⟨0, 0, false, false, false⟩) := H2.out.below hb3.out
    have hy := may_yes HMY.out w3 ao c (HS.out.below H3.out.1) HM.out
    clear hr hb3 H2
    go_wp2_with fail
    refine hy.mono ?_
    rintro e w4 ⟨rfl, hb4⟩
    have H4 : Hid (Fx w w4 w2.heap.size ⟨0, 0, false, false, false⟩) := H3.out.below hb4
    have hO := of_any (c := c) (HS.out.below H4.out.1) HMY.out
    clear hy hb4 H3
    go_wp2_with fail
    refine hO.mono ?_
    rintro e w5 ⟨rfl, P5, hb5⟩
    have H5 : Hid (Fx w w5 w2.heap.size ⟨0, 0, false, false, false⟩) := H4.out.below hb5
    have HP5 : Hid (Row rAPg w4.heap.size w5 (.slice (some ⟨w4.heap.size, 0, none⟩) 4096 4096) (pagesA (ownA L))) := P5
    obtain ⟨g1, hg1⟩ : ∃ g1, w4.heap.size = g1 := ⟨_, rfl⟩
    rw [hg1] at HP5
    rw [hg1]
    clear hO P5 hb5 H4
    have hq := rroom_any (c := 4096) HP5.out.sn n (-1) hn HZ.out
    have hn' : ¬ n < 1 := by omega
    go_wp2_with fail
    refine hq.mono ?_
    rintro e w6 ⟨rfl, hw6⟩
    obtain rfl := hw6.symm
    clear hw6 hq HZ
    obtain ⟨c0, c1, c2, c3, c4⟩ := AAr.laid (d := ⟨0, 0, false, false, false⟩) (H5.out.2)
    simp only at c0 c1 c2 c3 c4
    clear HP5 hg1
    go_wp2
    go_ret
    exact ⟨rfl, H5.out.1⟩
  · as_aux_lemma =>
    have hr := room_at (L := L) (n := n) (z := z) ⟨HMY.out, hn⟩ hZ (w2.alloc (.cells #[.int .i64 0, .int .i64 0, .bool false, .bool false, .bool false] 32)) ao c (HS.out.below H2.out.1) HM.out
    have HZ : Hid (RoomP (ownA L) n z) := hZ
    clear hZ
    refine hr.mono ?_
    rintro e w3 ⟨rfl, hb3⟩
    have H3 : Hid (Fx w w3 w2.heap.size ⟨0, 0, false, false, false⟩) := H2.out.below hb3.out
    have hy := may_yes HMY.out w3 ao c (HS.out.below H3.out.1) HM.out
    clear hr hb3 H2
    go_wp2_with fail
    refine hy.mono ?_
    rintro e w4 ⟨rfl, hb4⟩
    have H4 : Hid (Fx w w4 w2.heap.size ⟨0, 0, false, false, false⟩) := H3.out.below hb4
    have hO := of_any (c := c) (HS.out.below H4.out.1) HMY.out
    clear hy hb4 H3
    go_wp2_with fail
    refine hO.mono ?_
    rintro e w5 ⟨rfl, P5, hb5⟩
    have H5 : Hid (Fx w w5 w2.heap.size ⟨0, 0, false, false, false⟩) := H4.out.below hb5
    have HP5 : Hid (Row rAPg w4.heap.size w5 (.slice (some ⟨w4.heap.size, 0, none⟩) 4096 4096) (pagesA (ownA L))) := P5
    obtain ⟨g1, hg1⟩ : ∃ g1, w4.heap.size = g1 := ⟨_, rfl⟩
    rw [hg1] at HP5
    rw [hg1]
    clear hO P5 hb5 H4
    have hq := rroom_any (c := 4096) HP5.out.sn n z hn HZ.out
    have hn' : ¬ n < 1 := by omega
    go_wp2_with fail
    refine hq.mono ?_
    rintro e w6 ⟨rfl, hw6⟩
    obtain rfl := hw6.symm
    clear hw6 hq HZ
    have hz0 : ¬ (z : Int) < 0 := by omega
    have hz1 : (0 : Int) ≤ (z : Int) := by omega
    obtain ⟨c0, c1, c2, c3, c4⟩ := AAr.laid (d := ⟨0, 0, false, false, false⟩) (H5.out.2)
    simp only at c0 c1 c2 c3 c4
    clear HP5 hg1
    go_wp2
    go_ret
    exact ⟨rfl, H5.out.1⟩
set_option maxRecDepth 100000 in
set_option maxHeartbeats 16000000 in
theorem finds_in {w : World} {ao : Option Addr} {c : Nat} {L : List AAr} (hs : Sn rAAr w ao L) (hm : L.length ≤ maxLen) (h200 : L.length ≤ 200) (k : Nat) (n : Int) (hM : MayA L) (hk : k < 4096) (hown : ownA L k = none) :
    Calls Try.prog 4 #[.slice ao L.length c, .int .i64 k, .int .i64 n] w fun e w' => e = .returned (.bool true) ∧ Below w.heap.size w w' := by
  have hU := up_any w
  have he1 := eq_code 1 1
  rw [beq_self_eq_true] at he1
  have he3 := eq_code 3 3
  rw [beq_self_eq_true] at he3
  have hn1 := neq_err 1
  have hn5 := neq_err 5
  have hz := eqz
  have HS : Hid (Sn rAAr w ao L) := hs
  have HM : Hid (L.length ≤ maxLen) := hm
  have h200z : ¬ (200 : Int) < (L.length : Int) := by omega
  have hm' : L.length ≤ 9223372036854775807 := by unfold maxLen at hm; omega
  clear hs hm
  have hF := fun w ao c => find_none (L := L) (p := (k : Int)) hM hown w ao c
  have HMY : Hid (MayA L) := hM
  have HOWN : Hid (ownA L k = none) := hown
  have HK : Hid (k < 4096) := hk
  clear hM hown
  go_enter Try.func4, Try.ntmps4
  go_wp2_with fail
  refine hU.mono ?_
  rintro e w1 ⟨rfl, hb1⟩
  have HB1 : Hid (Below w.heap.size w w1) := hb1
  have hf := hF w1 ao c (HS.out.below hb1) HM.out
  clear hU hb1 hF
  go_wp2_with fail
  refine hf.mono ?_
  rintro e w2 ⟨rfl, hb2⟩
  have H2 : Hid (Fx w (w2.alloc (.cells #[.int .i64 0, .int .i64 0, .bool false, .bool false, .bool false] 32)) w2.heap.size ⟨0, 0, false, false, false⟩) := Fx.new (below_call' HB1.out hb2.out) ⟨0, 0, false, false, false⟩
  clear hf hb2
  have hways := room_ways HMY.out n
  go_wp2_with fail
  rcases hways with hn | ⟨hn, hZ⟩ | ⟨hn, z, hZ⟩
  · as_aux_lemma =>
    have hr := room_bad (L := L) (n := n) (fun h => by have := h.2; omega) (w2.alloc (.cells #[.int .i64 0, .int .i64 0, .bool false, .bool false, .bool false] 32)) ao c (HS.out.below H2.out.1) HM.out
    refine hr.mono ?_
    rintro e w3 ⟨rfl, hb3⟩
    have H3 : Hid (Fx w w3 w2.heap.size ⟨0, 0, false, false, false⟩) := H2.out.below hb3.out
    have hy := may_yes HMY.out w3 ao c (HS.out.below H3.out.1) HM.out
    clear hr hb3 H2
    go_wp2_with fail
    refine hy.mono ?_
    rintro e w4 ⟨rfl, hb4⟩
    have H4 : Hid (Fx w w4 w2.heap.size ⟨0, 0, false, false, false⟩) := H3.out.below hb4
    have hO := of_any (c := c) (HS.out.below H4.out.1) HMY.out
    clear hy hb4 H3
    go_wp2_with fail
    refine hO.mono ?_
    rintro e w5 ⟨rfl, P5, hb5⟩
    have H5 : Hid (Fx w w5 w2.heap.size ⟨0, 0, false, false, false⟩) := H4.out.below hb5
    have HP5 : Hid (Row rAPg w4.heap.size w5 (.slice (some ⟨w4.heap.size, 0, none⟩) 4096 4096) (pagesA (ownA L))) := P5
    obtain ⟨g1, hg1⟩ : ∃ g1, w4.heap.size = g1 := ⟨_, rfl⟩
    rw [hg1] at HP5
    rw [hg1]
    clear hO P5 hb5 H4
    have hkz : ¬ (k : Int) < 0 := by omega
    have hkz2 : ¬ (4095 : Int) < (k : Int) := by omega
    have hkz3 : (k : Int) < 4096 := by omega
    obtain ⟨p0, p1, p2, p3⟩ := of_cells HP5.out HK.out
    rw [HOWN.out] at p0 p1 p2 p3
    simp only [pgA] at p0 p1 p2 p3
    obtain ⟨c0, c1, c2, c3, c4⟩ := AAr.laid (d := ⟨0, 0, false, false, false⟩) (H5.out.2)
    simp only at c0 c1 c2 c3 c4
    clear HP5 hg1
    go_wp2
    go_ret
    exact ⟨rfl, H5.out.1⟩
  · as_aux_lemma =>
    have hr := room_no (L := L) (n := n) ⟨HMY.out, hn⟩ hZ (w2.alloc (.cells #[.int .i64 0, .int .i64 0, .bool false, .bool false, .bool false] 32)) ao c (HS.out.below H2.out.1) HM.out
    have HZ : Hid (RoomP (ownA L) n (-1)) := hZ
    clear hZ
    refine hr.mono ?_
    rintro e w3 ⟨rfl, hb3⟩
    have H3 : Hid (Fx w w3 w2.heap.size ⟨0, 0, false, false, false⟩) := H2.out.below hb3.out
    have hy := may_yes HMY.out w3 ao c (HS.out.below H3.out.1) HM.out
    clear hr hb3 H2
    go_wp2_with fail
    refine hy.mono ?_
    rintro e w4 ⟨rfl, hb4⟩
    have H4 : Hid (Fx w w4 w2.heap.size ⟨0, 0, false, false, false⟩) := H3.out.below hb4
    have hO := of_any (c := c) (HS.out.below H4.out.1) HMY.out
    clear hy hb4 H3
    go_wp2_with fail
    refine hO.mono ?_
    rintro e w5 ⟨rfl, P5, hb5⟩
    have H5 : Hid (Fx w w5 w2.heap.size ⟨0, 0, false, false, false⟩) := H4.out.below hb5
    have HP5 : Hid (Row rAPg w4.heap.size w5 (.slice (some ⟨w4.heap.size, 0, none⟩) 4096 4096) (pagesA (ownA L))) := P5
    obtain ⟨g1, hg1⟩ : ∃ g1, w4.heap.size = g1 := ⟨_, rfl⟩
    rw [hg1] at HP5
    rw [hg1]
    clear hO P5 hb5 H4
    have hq := rroom_any (c := 4096) HP5.out.sn n (-1) hn HZ.out
    have hn' : ¬ n < 1 := by omega
    go_wp2_with fail
    refine hq.mono ?_
    rintro e w6 ⟨rfl, hw6⟩
    obtain rfl := hw6.symm
    clear hw6 hq HZ
    have hkz : ¬ (k : Int) < 0 := by omega
    have hkz2 : ¬ (4095 : Int) < (k : Int) := by omega
    have hkz3 : (k : Int) < 4096 := by omega
    obtain ⟨p0, p1, p2, p3⟩ := of_cells HP5.out HK.out
    rw [HOWN.out] at p0 p1 p2 p3
    simp only [pgA] at p0 p1 p2 p3
    obtain ⟨c0, c1, c2, c3, c4⟩ := AAr.laid (d := ⟨0, 0, false, false, false⟩) (H5.out.2)
    simp only at c0 c1 c2 c3 c4
    clear HP5 hg1
    go_wp2
    go_ret
    exact ⟨rfl, H5.out.1⟩
  · as_aux_lemma =>
    have hr := room_at (L := L) (n := n) (z := z) ⟨HMY.out, hn⟩ hZ (w2.alloc (.cells #[.int .i64 0, .int .i64 0, .bool false, .bool false, .bool false] 32)) ao c (HS.out.below H2.out.1) HM.out
    have HZ : Hid (RoomP (ownA L) n z) := hZ
    clear hZ
    refine hr.mono ?_
    rintro e w3 ⟨rfl, hb3⟩
    have H3 : Hid (Fx w w3 w2.heap.size ⟨0, 0, false, false, false⟩) := H2.out.below hb3.out
    have hy := may_yes HMY.out w3 ao c (HS.out.below H3.out.1) HM.out
    clear hr hb3 H2
    go_wp2_with fail
    refine hy.mono ?_
    rintro e w4 ⟨rfl, hb4⟩
    have H4 : Hid (Fx w w4 w2.heap.size ⟨0, 0, false, false, false⟩) := H3.out.below hb4
    have hO := of_any (c := c) (HS.out.below H4.out.1) HMY.out
    clear hy hb4 H3
    go_wp2_with fail
    refine hO.mono ?_
    rintro e w5 ⟨rfl, P5, hb5⟩
    have H5 : Hid (Fx w w5 w2.heap.size ⟨0, 0, false, false, false⟩) := H4.out.below hb5
    have HP5 : Hid (Row rAPg w4.heap.size w5 (.slice (some ⟨w4.heap.size, 0, none⟩) 4096 4096) (pagesA (ownA L))) := P5
    obtain ⟨g1, hg1⟩ : ∃ g1, w4.heap.size = g1 := ⟨_, rfl⟩
    rw [hg1] at HP5
    rw [hg1]
    clear hO P5 hb5 H4
    have hq := rroom_any (c := 4096) HP5.out.sn n z hn HZ.out
    have hn' : ¬ n < 1 := by omega
    go_wp2_with fail
    refine hq.mono ?_
    rintro e w6 ⟨rfl, hw6⟩
    obtain rfl := hw6.symm
    clear hw6 hq HZ
    have hz0 : ¬ (z : Int) < 0 := by omega
    have hz1 : (0 : Int) ≤ (z : Int) := by omega
    have hkz : ¬ (k : Int) < 0 := by omega
    have hkz2 : ¬ (4095 : Int) < (k : Int) := by omega
    have hkz3 : (k : Int) < 4096 := by omega
    obtain ⟨p0, p1, p2, p3⟩ := of_cells HP5.out HK.out
    rw [HOWN.out] at p0 p1 p2 p3
    simp only [pgA] at p0 p1 p2 p3
    obtain ⟨c0, c1, c2, c3, c4⟩ := AAr.laid (d := ⟨0, 0, false, false, false⟩) (H5.out.2)
    simp only at c0 c1 c2 c3 c4
    clear HP5 hg1
    go_wp2
    go_ret
    exact ⟨rfl, H5.out.1⟩
set_option maxRecDepth 100000 in
set_option maxHeartbeats 16000000 in
theorem finds_some {w : World} {ao : Option Addr} {c : Nat} {L : List AAr} (hs : Sn rAAr w ao L) (hm : L.length ≤ maxLen) (h200 : L.length ≤ 200) (k : Nat) (n : Int) (t1 t2 t3 : Bool) (hM : MayA L) (hk : k < 4096) (hown : ownA L k = some (t1, t2, t3)) :
    Calls Try.prog 4 #[.slice ao L.length c, .int .i64 k, .int .i64 n] w fun e w' => e = .returned (.bool true) ∧ Below w.heap.size w w' := by
  have hU := up_any w
  have he1 := eq_code 1 1
  rw [beq_self_eq_true] at he1
  have he3 := eq_code 3 3
  rw [beq_self_eq_true] at he3
  have hn1 := neq_err 1
  have hn5 := neq_err 5
  have hz := eqz
  have HS : Hid (Sn rAAr w ao L) := hs
  have HM : Hid (L.length ≤ maxLen) := hm
  have h200z : ¬ (200 : Int) < (L.length : Int) := by omega
  have hm' : L.length ≤ 9223372036854775807 := by unfold maxLen at hm; omega
  clear hs hm
  have hF := fun w ao c => find_some (L := L) (p := (k : Int)) hM hown w ao c
  simp only at hF
  have HMY : Hid (MayA L) := hM
  have HOWN : Hid (ownA L k = some (t1, t2, t3)) := hown
  have HK : Hid (k < 4096) := hk
  clear hM hown
  go_enter Try.func4, Try.ntmps4
  go_wp2_with fail
  refine hU.mono ?_
  rintro e w1 ⟨rfl, hb1⟩
  have HB1 : Hid (Below w.heap.size w w1) := hb1
  have hf := hF w1 ao c (HS.out.below hb1) HM.out
  clear hU hb1 hF
  go_wp2_with fail
  refine hf.mono ?_
  rintro e w2 ⟨x, y, rfl, hxy, hb2⟩
  have HXY : Hid (x ≤ (k : Int) ∧ (k : Int) < y) := hxy.out
  have H2 : Hid (Fx w (w2.alloc (.cells #[.int .i64 x, .int .i64 y, .bool t1, .bool t2, .bool t3] 32)) w2.heap.size ⟨x, y, t1, t2, t3⟩) := Fx.new (below_call' HB1.out hb2.out) ⟨x, y, t1, t2, t3⟩
  clear hf hb2 hxy
  have hways := room_ways HMY.out n
  go_wp2_with fail
  rcases hways with hn | ⟨hn, hZ⟩ | ⟨hn, z, hZ⟩
  · as_aux_lemma =>
    have hr := room_bad (L := L) (n := n) (fun h => by have := h.2; omega) (w2.alloc (.cells #[.int .i64 x, .int .i64 y, .bool t1, .bool t2, .bool t3] 32)) ao c (HS.out.below H2.out.1) HM.out
    refine hr.mono ?_
    rintro e w3 ⟨rfl, hb3⟩
    have H3 : Hid (Fx w w3 w2.heap.size ⟨x, y, t1, t2, t3⟩) := H2.out.below hb3.out
    have hy := may_yes HMY.out w3 ao c (HS.out.below H3.out.1) HM.out
    clear hr hb3 H2
    go_wp2_with fail
    refine hy.mono ?_
    rintro e w4 ⟨rfl, hb4⟩
    have H4 : Hid (Fx w w4 w2.heap.size ⟨x, y, t1, t2, t3⟩) := H3.out.below hb4
    have hO := of_any (c := c) (HS.out.below H4.out.1) HMY.out
    clear hy hb4 H3
    go_wp2_with fail
    refine hO.mono ?_
    rintro e w5 ⟨rfl, P5, hb5⟩
    have H5 : Hid (Fx w w5 w2.heap.size ⟨x, y, t1, t2, t3⟩) := H4.out.below hb5
    have HP5 : Hid (Row rAPg w4.heap.size w5 (.slice (some ⟨w4.heap.size, 0, none⟩) 4096 4096) (pagesA (ownA L))) := P5
    obtain ⟨g1, hg1⟩ : ∃ g1, w4.heap.size = g1 := ⟨_, rfl⟩
    rw [hg1] at HP5
    rw [hg1]
    clear hO P5 hb5 H4
    have hkz : ¬ (k : Int) < 0 := by omega
    have hkz2 : ¬ (4095 : Int) < (k : Int) := by omega
    have hkz3 : (k : Int) < 4096 := by omega
    obtain ⟨p0, p1, p2, p3⟩ := of_cells HP5.out HK.out
    rw [HOWN.out] at p0 p1 p2 p3
    simp only [pgA] at p0 p1 p2 p3
    obtain ⟨c0, c1, c2, c3, c4⟩ := AAr.laid (d := ⟨x, y, t1, t2, t3⟩) (H5.out.2)
    simp only at c0 c1 c2 c3 c4
    have hx1 : decide (x ≤ (k : Int)) = true := decide_eq_true HXY.out.1
    have hx2 : decide ((k : Int) < y) = true := decide_eq_true HXY.out.2
    have hx3 : x ≤ (k : Int) := HXY.out.1
    have hx4 : (k : Int) < y := HXY.out.2
    have hq2 := eql_ar ⟨x, y, t1, t2, t3⟩ ⟨x, y, t1, t2, t3⟩
    rw [eqA_self] at hq2
    have hAr := fun w => rarea_any ⟨true, t1, t2, t3⟩ x y w
    unfold pv av at hAr
    unfold av at hq2
    simp only at hAr hq2
    have hlb := H5.out.2.lt
    have hlg := (HP5.out.lt g1 rfl).2
    clear HP5 hg1
    go_wp2
    clear hz he1 he3 hn1 hn5 hn
    go_region_held3 (fun w' => w'.cell? ⟨w2.heap.size, 0, none⟩ = some (.int .i64 x) ∧ w'.cell? ⟨w2.heap.size, 1, none⟩ = some (.int .i64 y) ∧ w'.cell? ⟨w2.heap.size, 2, none⟩ = some (.bool t1) ∧ w'.cell? ⟨w2.heap.size, 3, none⟩ = some (.bool t2) ∧ w'.cell? ⟨w2.heap.size, 4, none⟩ = some (.bool t3) ∧ w'.cell? ⟨g1, k * 4, none⟩ = some (.bool true) ∧ w'.cell? ⟨g1, k * 4 + 1, none⟩ = some (.bool t1) ∧ w'.cell? ⟨g1, k * 4 + 2, none⟩ = some (.bool t2) ∧ w'.cell? ⟨g1, k * 4 + 3, none⟩ = some (.bool t3)) (go_keep) (first | (go_at_call 19; refine (hAr _).mono ?_; rintro e w7 ⟨rfl, hb7⟩; have hx6 := fun o => (bcell hb7).1 w2.heap.size o hlb; have hx7 := fun o => (bcell hb7).1 g1 o hlg))
    all_goals
      have HB7 : Hid (Below w.heap.size w w7) := by first | exact below_call' H5.out.1 hb7 | exact below_call' (below_drewN H5.out.1 _) hb7
      clear hb7
      go_wp2
      go_ret
      exact ⟨rfl, HB7.out⟩
  · as_aux_lemma =>
    have hr := room_no (L := L) (n := n) ⟨HMY.out, hn⟩ hZ (w2.alloc (.cells #[.int .i64 x, .int .i64 y, .bool t1, .bool t2, .bool t3] 32)) ao c (HS.out.below H2.out.1) HM.out
    have HZ : Hid (RoomP (ownA L) n (-1)) := hZ
    clear hZ
    refine hr.mono ?_
    rintro e w3 ⟨rfl, hb3⟩
    have H3 : Hid (Fx w w3 w2.heap.size ⟨x, y, t1, t2, t3⟩) := H2.out.below hb3.out
    have hy := may_yes HMY.out w3 ao c (HS.out.below H3.out.1) HM.out
    clear hr hb3 H2
    go_wp2_with fail
    refine hy.mono ?_
    rintro e w4 ⟨rfl, hb4⟩
    have H4 : Hid (Fx w w4 w2.heap.size ⟨x, y, t1, t2, t3⟩) := H3.out.below hb4
    have hO := of_any (c := c) (HS.out.below H4.out.1) HMY.out
    clear hy hb4 H3
    go_wp2_with fail
    refine hO.mono ?_
    rintro e w5 ⟨rfl, P5, hb5⟩
    have H5 : Hid (Fx w w5 w2.heap.size ⟨x, y, t1, t2, t3⟩) := H4.out.below hb5
    have HP5 : Hid (Row rAPg w4.heap.size w5 (.slice (some ⟨w4.heap.size, 0, none⟩) 4096 4096) (pagesA (ownA L))) := P5
    obtain ⟨g1, hg1⟩ : ∃ g1, w4.heap.size = g1 := ⟨_, rfl⟩
    rw [hg1] at HP5
    rw [hg1]
    clear hO P5 hb5 H4
    have hq := rroom_any (c := 4096) HP5.out.sn n (-1) hn HZ.out
    have hn' : ¬ n < 1 := by omega
    go_wp2_with fail
    refine hq.mono ?_
    rintro e w6 ⟨rfl, hw6⟩
    obtain rfl := hw6.symm
    clear hw6 hq HZ
    have hkz : ¬ (k : Int) < 0 := by omega
    have hkz2 : ¬ (4095 : Int) < (k : Int) := by omega
    have hkz3 : (k : Int) < 4096 := by omega
    obtain ⟨p0, p1, p2, p3⟩ := of_cells HP5.out HK.out
    rw [HOWN.out] at p0 p1 p2 p3
    simp only [pgA] at p0 p1 p2 p3
    obtain ⟨c0, c1, c2, c3, c4⟩ := AAr.laid (d := ⟨x, y, t1, t2, t3⟩) (H5.out.2)
    simp only at c0 c1 c2 c3 c4
    have hx1 : decide (x ≤ (k : Int)) = true := decide_eq_true HXY.out.1
    have hx2 : decide ((k : Int) < y) = true := decide_eq_true HXY.out.2
    have hx3 : x ≤ (k : Int) := HXY.out.1
    have hx4 : (k : Int) < y := HXY.out.2
    have hq2 := eql_ar ⟨x, y, t1, t2, t3⟩ ⟨x, y, t1, t2, t3⟩
    rw [eqA_self] at hq2
    have hAr := fun w => rarea_any ⟨true, t1, t2, t3⟩ x y w
    unfold pv av at hAr
    unfold av at hq2
    simp only at hAr hq2
    have hlb := H5.out.2.lt
    have hlg := (HP5.out.lt g1 rfl).2
    clear HP5 hg1
    go_wp2
    clear hz he1 he3 hn1 hn5 hn
    go_region_held3 (fun w' => w'.cell? ⟨w2.heap.size, 0, none⟩ = some (.int .i64 x) ∧ w'.cell? ⟨w2.heap.size, 1, none⟩ = some (.int .i64 y) ∧ w'.cell? ⟨w2.heap.size, 2, none⟩ = some (.bool t1) ∧ w'.cell? ⟨w2.heap.size, 3, none⟩ = some (.bool t2) ∧ w'.cell? ⟨w2.heap.size, 4, none⟩ = some (.bool t3) ∧ w'.cell? ⟨g1, k * 4, none⟩ = some (.bool true) ∧ w'.cell? ⟨g1, k * 4 + 1, none⟩ = some (.bool t1) ∧ w'.cell? ⟨g1, k * 4 + 2, none⟩ = some (.bool t2) ∧ w'.cell? ⟨g1, k * 4 + 3, none⟩ = some (.bool t3)) (go_keep) (first | (go_at_call 19; refine (hAr _).mono ?_; rintro e w7 ⟨rfl, hb7⟩; have hx6 := fun o => (bcell hb7).1 w2.heap.size o hlb; have hx7 := fun o => (bcell hb7).1 g1 o hlg))
    all_goals
      have HB7 : Hid (Below w.heap.size w w7) := by first | exact below_call' H5.out.1 hb7 | exact below_call' (below_drewN H5.out.1 _) hb7
      clear hb7
      go_wp2
      go_ret
      exact ⟨rfl, HB7.out⟩
  · as_aux_lemma =>
    have hr := room_at (L := L) (n := n) (z := z) ⟨HMY.out, hn⟩ hZ (w2.alloc (.cells #[.int .i64 x, .int .i64 y, .bool t1, .bool t2, .bool t3] 32)) ao c (HS.out.below H2.out.1) HM.out
    have HZ : Hid (RoomP (ownA L) n z) := hZ
    clear hZ
    refine hr.mono ?_
    rintro e w3 ⟨rfl, hb3⟩
    have H3 : Hid (Fx w w3 w2.heap.size ⟨x, y, t1, t2, t3⟩) := H2.out.below hb3.out
    have hy := may_yes HMY.out w3 ao c (HS.out.below H3.out.1) HM.out
    clear hr hb3 H2
    go_wp2_with fail
    refine hy.mono ?_
    rintro e w4 ⟨rfl, hb4⟩
    have H4 : Hid (Fx w w4 w2.heap.size ⟨x, y, t1, t2, t3⟩) := H3.out.below hb4
    have hO := of_any (c := c) (HS.out.below H4.out.1) HMY.out
    clear hy hb4 H3
    go_wp2_with fail
    refine hO.mono ?_
    rintro e w5 ⟨rfl, P5, hb5⟩
    have H5 : Hid (Fx w w5 w2.heap.size ⟨x, y, t1, t2, t3⟩) := H4.out.below hb5
    have HP5 : Hid (Row rAPg w4.heap.size w5 (.slice (some ⟨w4.heap.size, 0, none⟩) 4096 4096) (pagesA (ownA L))) := P5
    obtain ⟨g1, hg1⟩ : ∃ g1, w4.heap.size = g1 := ⟨_, rfl⟩
    rw [hg1] at HP5
    rw [hg1]
    clear hO P5 hb5 H4
    have hq := rroom_any (c := 4096) HP5.out.sn n z hn HZ.out
    have hn' : ¬ n < 1 := by omega
    go_wp2_with fail
    refine hq.mono ?_
    rintro e w6 ⟨rfl, hw6⟩
    obtain rfl := hw6.symm
    clear hw6 hq HZ
    have hz0 : ¬ (z : Int) < 0 := by omega
    have hz1 : (0 : Int) ≤ (z : Int) := by omega
    have hkz : ¬ (k : Int) < 0 := by omega
    have hkz2 : ¬ (4095 : Int) < (k : Int) := by omega
    have hkz3 : (k : Int) < 4096 := by omega
    obtain ⟨p0, p1, p2, p3⟩ := of_cells HP5.out HK.out
    rw [HOWN.out] at p0 p1 p2 p3
    simp only [pgA] at p0 p1 p2 p3
    obtain ⟨c0, c1, c2, c3, c4⟩ := AAr.laid (d := ⟨x, y, t1, t2, t3⟩) (H5.out.2)
    simp only at c0 c1 c2 c3 c4
    have hx1 : decide (x ≤ (k : Int)) = true := decide_eq_true HXY.out.1
    have hx2 : decide ((k : Int) < y) = true := decide_eq_true HXY.out.2
    have hx3 : x ≤ (k : Int) := HXY.out.1
    have hx4 : (k : Int) < y := HXY.out.2
    have hq2 := eql_ar ⟨x, y, t1, t2, t3⟩ ⟨x, y, t1, t2, t3⟩
    rw [eqA_self] at hq2
    have hAr := fun w => rarea_any ⟨true, t1, t2, t3⟩ x y w
    unfold pv av at hAr
    unfold av at hq2
    simp only at hAr hq2
    have hlb := H5.out.2.lt
    have hlg := (HP5.out.lt g1 rfl).2
    clear HP5 hg1
    go_wp2
    clear hz he1 he3 hn1 hn5 hn
    go_region_held3 (fun w' => w'.cell? ⟨w2.heap.size, 0, none⟩ = some (.int .i64 x) ∧ w'.cell? ⟨w2.heap.size, 1, none⟩ = some (.int .i64 y) ∧ w'.cell? ⟨w2.heap.size, 2, none⟩ = some (.bool t1) ∧ w'.cell? ⟨w2.heap.size, 3, none⟩ = some (.bool t2) ∧ w'.cell? ⟨w2.heap.size, 4, none⟩ = some (.bool t3) ∧ w'.cell? ⟨g1, k * 4, none⟩ = some (.bool true) ∧ w'.cell? ⟨g1, k * 4 + 1, none⟩ = some (.bool t1) ∧ w'.cell? ⟨g1, k * 4 + 2, none⟩ = some (.bool t2) ∧ w'.cell? ⟨g1, k * 4 + 3, none⟩ = some (.bool t3)) (go_keep) (first | (go_at_call 19; refine (hAr _).mono ?_; rintro e w7 ⟨rfl, hb7⟩; have hx6 := fun o => (bcell hb7).1 w2.heap.size o hlb; have hx7 := fun o => (bcell hb7).1 g1 o hlg))
    all_goals
      have HB7 : Hid (Below w.heap.size w w7) := by first | exact below_call' H5.out.1 hb7 | exact below_call' (below_drewN H5.out.1 _) hb7
      clear hb7
      go_wp2
      go_ret
      exact ⟨rfl, HB7.out⟩
theorem finds_any {w : World} {ao : Option Addr} {c : Nat} {L : List AAr} (hs : Sn rAAr w ao L) (hm : L.length ≤ maxLen) (p n : Int) :
    Calls Try.prog 4 #[.slice ao L.length c, .int .i64 p, .int .i64 n] w fun e w' => e = .returned (.bool true) ∧ Below w.heap.size w w' := by
  by_cases h200 : L.length ≤ 200
  · by_cases hM : MayA L
    · by_cases h1 : p < 0
      · exact finds_low hs hm h200 p n hM h1
      · by_cases h2 : 4095 < p
        · exact finds_high hs hm h200 p n hM h2
        · obtain ⟨k, rfl⟩ : ∃ k : Nat, p = k := ⟨p.toNat, by omega⟩
          cases ho : ownA L k with
          | none => exact finds_in hs hm h200 k n hM (by omega) ho
          | some t => exact finds_some hs hm h200 k n t.1 t.2.1 t.2.2 hM (by omega) ho
    · exact finds_bad hs hm h200 p n hM
  · have hU := up_any w
    have h200z : (200 : Int) < (L.length : Int) := by omega
    have hm' : L.length ≤ 9223372036854775807 := by unfold maxLen at hm; omega
    clear hs hm
    go_enter Try.func4, Try.ntmps4
    go_wp2_with fail
    refine hU.mono ?_
    rintro e w1 ⟨rfl, hb1⟩
    have HB1 : Hid (Below w.heap.size w w1) := hb1
    clear hU hb1
    go_wp2
    go_ret
    exact ⟨rfl, HB1.out⟩
theorem walk_areaFinds (ao : Option Addr) (len cap : Nat) (D : Nat → AAr) (p n : Int) (w : World) (hm : len ≤ maxLen) (hL : Lst AAr.cells AAr.ok 5 w ao len D) (_ : -9223372036854775808 ≤ p ∧ p ≤ 9223372036854775807) (_ : -9223372036854775808 ≤ n ∧ n ≤ 9223372036854775807) :
    Calls Try.prog 4 #[.slice ao len cap, .int .i64 p, .int .i64 n] w fun e w' => e = .returned (.bool true) ∧ Below w.heap.size w w' := by
  have h := finds_any (c := cap) hL.sn (by rw [lstN]; exact hm) p n
  rwa [lstN] at h
end Go.Proofs.Ytaeodbeodacmaaa
