/- AreaKeeps, walked (printed by tools/gen/gen_keeps9.py). -/
import Derived.Test.YtaeodbeodacmaaaARgb
import Derived.Test.YtaeodbeodacmaaaALwR
import Derived.Lib.ItoaWalk
namespace Go.Proofs.Ytaeodbeodacmaaa
open Go.RowKit

def Fy (w W : World) (d : AAr) (g : Nat) (e : AAr) : Prop := Bx1 w W d ∧ Laid W g 32 e.arr
theorem Fy.below {w W W' : World} {g : Nat} {d e : AAr} (h : Fy w W d g e) (hb : Below W.heap.size W W') : Fy w W' d g e := ⟨h.1.below hb, h.2.below hb⟩
theorem Fy.new {w W : World} {d : AAr} (h : Bx1 w W d) (e : AAr) : Fy w (W.alloc (.cells e.arr 32)) d W.heap.size e := ⟨h.below (new_below _ _), Laid.new _ _ _⟩
def Fz (w W : World) (d : AAr) (g : Nat) (e : AAr) (g' : Nat) (e' : AAr) : Prop := Fy w W d g e ∧ Laid W g' 32 e'.arr
theorem Fz.new {w W : World} {d : AAr} {g : Nat} {e : AAr} (h : Fy w W d g e) (e' : AAr) : Fz w (W.alloc (.cells e'.arr 32)) d g e W.heap.size e' := ⟨h.below (new_below _ _), Laid.new _ _ _⟩
theorem find_gen {L : List AAr} {p : Int} (w : World) (ao : Option Addr) (c : Nat) (hs : Sn rAAr w ao L) (hm : L.length ≤ maxLen) :
    Calls Try.prog 15 #[.slice ao L.length c, .int .i64 p] w fun e w' => ∃ (x y : Int) (t1 t2 t3 : Bool) (u : Value), e = .returned (.tuple #[.agg #[.int .i64 x, .int .i64 y, .bool t1, .bool t2, .bool t3], u]) ∧ Hid (Below w.heap.size w w') := by
  obtain ⟨r, s, q⟩ := find_tell L p
  refine (q w ao c hs hm).mono fun e w' ⟨e1, hb⟩ => ?_
  cases r with
  | ok d => exact ⟨d.a, d.b, d.w, d.x, d.h, _, e1, hb⟩
  | error n => exact ⟨0, 0, false, false, false, _, e1, hb⟩
theorem LayS.own {L : List AAr} {a b : Int} {t : Option Pg} {M : List AAr} (h : LayS L a b (layA (ownA L) a b t) (.ok M)) (p : Int) : ownA M p = if a ≤ p ∧ p < b then t else ownA L p := by
  obtain ⟨h1, h2, h3, h4⟩ := h.sure
  by_cases c : 0 ≤ p ∧ p < 4096
  · exact h3.2 p c.1 c.2
  · rw [if_neg (by have := h2.1; have := h2.2.2; omega), nrm_own h3.1 (by omega), nrm_own h1.2 (by omega)]
theorem nrs (a b : Bool) (w : World) : (binOp .neq 30 (.agg #[.bool a, .bool b]) (.agg #[.bool a, .bool b])).run Try.prog w = .ok (.bool false) w := by
  rw [neq_rt]
  simp
theorem code3 (w : World) : Calls Try.prog 27 #[.iface 28 (.int .i64 3)] w fun e w' => e = .returned (.int .i64 3) ∧ w' = w := code_any 3 w (by decide) (by decide)

set_option maxRecDepth 100000 in
set_option maxHeartbeats 16000000 in
theorem keeps_okok_in {w : World} {ao : Option Addr} {c : Nat} {L : List AAr} (hs : Sn rAAr w ao L) (hm : L.length ≤ maxLen) (h200 : L.length ≤ 200) {a b : Int} {x2 x3 x4 : Bool} {p : Int} {M1 : List AAr} (s1 : LayS L a b (layA (ownA L) a b (some (x2, x3, x4))) (.ok M1)) {M2 : List AAr} (s2 : LayS L a b (layA (ownA L) a b none) (.ok M2)) (q1 : ∀ w ao c, Sn rAAr w ao L → L.length ≤ maxLen → Calls Try.prog 20 #[.slice ao L.length c, .agg #[.int .i64 a, .int .i64 b, .bool x2, .bool x3, .bool x4]] w (TellW w (.ok M1))) (q2 : ∀ w ao c, Sn rAAr w ao L → L.length ≤ maxLen → Calls Try.prog 21 #[.slice ao L.length c, .int .i64 a, .int .i64 b] w (TellW w (.ok M2))) (hin : a ≤ p ∧ p < b) :
    Calls Try.prog 7 #[.slice ao L.length c, .agg #[.int .i64 a, .int .i64 b, .bool x2, .bool x3, .bool x4], .int .i64 p] w fun e w' => e = .returned (.bool true) ∧ Below w.heap.size w w' := by
  have H0 : Hid (Bx1 w (w.alloc (.cells (AAr.arr ⟨a, b, x2, x3, x4⟩) 32)) ⟨a, b, x2, x3, x4⟩) := Bx1.new w ⟨a, b, x2, x3, x4⟩
  have hU := up_any (w.alloc (.cells (AAr.arr ⟨a, b, x2, x3, x4⟩) 32))
  unfold AAr.arr at H0 hU
  simp only at H0 hU
  have HS : Hid (Sn rAAr w ao L) := hs
  have HM : Hid (L.length ≤ maxLen) := hm
  have h200z : ¬ (200 : Int) < (L.length : Int) := by omega
  have hm' : L.length ≤ 9223372036854775807 := by unfold maxLen at hm; omega
  clear hs hm h200
  have hnr := nrs x2 x3
  have hn3 := neq_err 3
  have hF := fun w ao c => find_gen (L := L) (p := p) w ao c
  have ho1 : ownA M1 p = some (x2, x3, x4) := by rw [s1.own p, if_pos hin]
  have HL1 : Hid (M1.length ≤ maxLen) := by have := s1.sure.2.2.2; unfold maxLen; show _ ≤ _; omega
  have hF1 := fun w ao c => find_some (L := M1) (p := p) (s1.sure.2.2.1.may s1.sure.2.2.2) ho1 w ao c
  clear ho1
  simp only at hF1
  have ho2 : ownA M2 p = none := by rw [s2.own p, if_pos hin]
  have HL2 : Hid (M2.length ≤ maxLen) := by have := s2.sure.2.2.2; unfold maxLen; show _ ≤ _; omega
  have hF2 := fun w ao c => find_none (L := M2) (p := p) (s2.sure.2.2.1.may s2.sure.2.2.2) ho2 w ao c
  clear ho2
  clear s1 s2
  obtain ⟨ib, hib⟩ : ∃ ib : Bool, ib = decide (a ≤ p ∧ p < b) := ⟨_, rfl⟩
  have HIB : Hid (ib = decide (a ≤ p ∧ p < b)) := hib
  clear hib
  have HIN : Hid _ := hin
  clear hin
  go_enter Try.func7, Try.ntmps7
  go_wp2_with fail
  refine hU.mono ?_
  rintro e w1 ⟨rfl, hb1⟩
  have H1 : Hid (Bx1 w w1 ⟨a, b, x2, x3, x4⟩) := H0.out.below hb1
  have HS1 : Hid (Sn rAAr w1 ao L) := HS.out.below H1.out.1
  clear hU hb1 H0 HS
  obtain ⟨c0, c1, c2, c3, c4⟩ := AAr.laid (d := ⟨a, b, x2, x3, x4⟩) (H1.out.2.1)
  simp only at c0 c1 c2 c3 c4
  go_wp2_with fail
  refine (q1 w1 ao c HS1.out HM.out).mono ?_
  rintro e w2 ⟨ao1, k1, rfl, hr1, hb1⟩
  have H2 : Hid (Bx1 w w2 ⟨a, b, x2, x3, x4⟩) := H1.out.below hb1.out
  have HS2 : Hid (Sn rAAr w2 ao L) := HS1.out.below hb1.out
  have S12 : Hid (Sn rAAr w2 ao1 M1) := hr1.out.sn
  clear hr1
  clear c0 c1 c2 c3 c4 hb1 H1 HS1 q1
  obtain ⟨c0, c1, c2, c3, c4⟩ := AAr.laid (d := ⟨a, b, x2, x3, x4⟩) (H2.out.2.1)
  simp only at c0 c1 c2 c3 c4
  go_wp2_with fail
  refine (q2 w2 ao c HS2.out HM.out).mono ?_
  rintro e w3 ⟨ao2, k2, rfl, hr2, hb2⟩
  have H3 : Hid (Bx1 w w3 ⟨a, b, x2, x3, x4⟩) := H2.out.below hb2.out
  have hf := hF w3 ao c (HS2.out.below hb2.out) HM.out
  have S13 : Hid (Sn rAAr w3 ao1 M1) := S12.out.below hb2.out
  clear S12
  have S23 : Hid (Sn rAAr w3 ao2 M2) := hr2.out.sn
  clear hr2
  clear c0 c1 c2 c3 c4 hb2 H2 HS2 q2 hF
  go_wp2_with fail
  refine hf.mono ?_
  rintro e w4 ⟨y1, y2, z1, z2, z3, u, rfl, hb3⟩
  have H4 : Hid (Bx1 w w4 ⟨a, b, x2, x3, x4⟩) := H3.out.below hb3.out
  have S14 : Hid (Sn rAAr w4 ao1 M1) := S13.out.below hb3.out
  clear S13
  have S24 : Hid (Sn rAAr w4 ao2 M2) := S23.out.below hb3.out
  clear S23
  clear hf hb3 H3
  go_upto_region 7 with fail
  go_name_world W4 hW4
  have H5 : Hid (Fy w W4 ⟨a, b, x2, x3, x4⟩ w4.heap.size ⟨y1, y2, z1, z2, z3⟩) := by rw [← hW4]; exact Fy.new H4.out ⟨y1, y2, z1, z2, z3⟩
  have S15 : Hid (Sn rAAr W4 ao1 M1) := by rw [← hW4]; exact S14.out.below (new_below _ _)
  clear S14
  have S25 : Hid (Sn rAAr W4 ao2 M2) := by rw [← hW4]; exact S24.out.below (new_below _ _)
  clear S24
  clear hW4 H4
  generalize w4.heap.size = gb at *
  obtain ⟨c0, c1, c2, c3, c4⟩ := AAr.laid (d := ⟨a, b, x2, x3, x4⟩) (H5.out.1.2.1)
  simp only at c0 c1 c2 c3 c4
  go_cut [14] from 45 to 54 (fun s14 wx => s14 = .bool ib ∧ W4 = wx)
  case first =>
    clear H5
    by_cases h1 : a ≤ p
    · by_cases h2 : p < b
      · go_wp2_with fail
        go_meet
        exact ⟨by rw [HIB.out, decide_eq_true (by omega)], rfl⟩
      · go_wp2_with fail
        go_meet
        exact ⟨by rw [HIB.out, decide_eq_false (by omega)], rfl⟩
    · go_wp2_with fail
      go_meet
      exact ⟨by rw [HIB.out, decide_eq_false (by omega)], rfl⟩
  case rest =>
  obtain ⟨rfl, rfl⟩ := hcut
  apply_assumption
  obtain rfl : ib = true := by rw [HIB.out]; exact decide_eq_true HIN.out
  clear HIB HIN
  have hf := hF1 W4 ao1 k1 S15.out HL1.out
  clear hF1
  go_wp2_with fail
  refine hf.mono ?_
  rintro e v1 ⟨e11, e21, rfl, -, hb1⟩
  have H6 : Hid (Fy w v1 ⟨a, b, x2, x3, x4⟩ gb ⟨y1, y2, z1, z2, z3⟩) := H5.out.below hb1.out
  have S26 : Hid (Sn rAAr v1 ao2 M2) := S25.out.below hb1.out
  clear S25
  clear hf hb1 H5 S15 c0 c1 c2 c3 c4
  go_upto_region 10 with fail
  go_name_world V1 hV1
  have H7 : Hid (Fz w V1 ⟨a, b, x2, x3, x4⟩ gb ⟨y1, y2, z1, z2, z3⟩ v1.heap.size ⟨e11, e21, x2, x3, x4⟩) := by rw [← hV1]; exact Fz.new H6.out ⟨e11, e21, x2, x3, x4⟩
  have S27 : Hid (Sn rAAr V1 ao2 M2) := by rw [← hV1]; exact S26.out.below (new_below _ _)
  clear S26
  clear hV1 H6
  generalize v1.heap.size = gc1 at *
  obtain ⟨c0, c1, c2, c3, c4⟩ := AAr.laid (d := ⟨a, b, x2, x3, x4⟩) (H7.out.1.1.2.1)
  simp only at c0 c1 c2 c3 c4
  obtain ⟨b0, b1, b2, b3, b4⟩ := AAr.laid (d := ⟨y1, y2, z1, z2, z3⟩) (H7.out.1.2)
  simp only at b0 b1 b2 b3 b4
  obtain ⟨f0, f1, f2, f3, f4⟩ := AAr.laid (d := ⟨e11, e21, x2, x3, x4⟩) (H7.out.2)
  simp only at f0 f1 f2 f3 f4
  have H8 : Hid (Fy w V1 ⟨a, b, x2, x3, x4⟩ gb ⟨y1, y2, z1, z2, z3⟩) := H7.out.1
  clear H7
  have S28 : Hid (Sn rAAr V1 ao2 M2) := S27.out
  clear S27
  go_upto_region 14 with fail
  clear b0 b1 b2 b3 b4 f0 f1 f2 f3 f4
  have hf := hF2 V1 ao2 k2 S28.out HL2.out
  clear hF2
  go_wp2_with fail
  refine hf.mono ?_
  rintro e v2 ⟨rfl, hb2⟩
  have H9 : Hid (Fy w v2 ⟨a, b, x2, x3, x4⟩ gb ⟨y1, y2, z1, z2, z3⟩) := H8.out.below hb2.out
  clear hf hb2 H8 S28 c0 c1 c2 c3 c4
  go_upto_region 16 with fail
  go_name_world V2 hV2
  have H10 : Hid (Fz w V2 ⟨a, b, x2, x3, x4⟩ gb ⟨y1, y2, z1, z2, z3⟩ v2.heap.size ⟨0, 0, false, false, false⟩) := by rw [← hV2]; exact Fz.new H9.out ⟨0, 0, false, false, false⟩
  clear hV2 H9
  generalize v2.heap.size = gc2 at *
  obtain ⟨c0, c1, c2, c3, c4⟩ := AAr.laid (d := ⟨a, b, x2, x3, x4⟩) (H10.out.1.1.2.1)
  simp only at c0 c1 c2 c3 c4
  obtain ⟨b0, b1, b2, b3, b4⟩ := AAr.laid (d := ⟨y1, y2, z1, z2, z3⟩) (H10.out.1.2)
  simp only at b0 b1 b2 b3 b4
  obtain ⟨f0, f1, f2, f3, f4⟩ := AAr.laid (d := ⟨0, 0, false, false, false⟩) (H10.out.2)
  simp only at f0 f1 f2 f3 f4
  have H11 : Hid (Fy w V2 ⟨a, b, x2, x3, x4⟩ gb ⟨y1, y2, z1, z2, z3⟩) := H10.out.1
  clear H10
  go_wp2_with fail
  go_ret
  exact ⟨rfl, H11.out.1.1⟩
set_option maxRecDepth 100000 in
set_option maxHeartbeats 16000000 in
theorem keeps_okok_on {w : World} {ao : Option Addr} {c : Nat} {L : List AAr} (hs : Sn rAAr w ao L) (hm : L.length ≤ maxLen) (h200 : L.length ≤ 200) {a b : Int} {x2 x3 x4 : Bool} {p : Int} {M1 : List AAr} (s1 : LayS L a b (layA (ownA L) a b (some (x2, x3, x4))) (.ok M1)) {M2 : List AAr} (s2 : LayS L a b (layA (ownA L) a b none) (.ok M2)) (q1 : ∀ w ao c, Sn rAAr w ao L → L.length ≤ maxLen → Calls Try.prog 20 #[.slice ao L.length c, .agg #[.int .i64 a, .int .i64 b, .bool x2, .bool x3, .bool x4]] w (TellW w (.ok M1))) (q2 : ∀ w ao c, Sn rAAr w ao L → L.length ≤ maxLen → Calls Try.prog 21 #[.slice ao L.length c, .int .i64 a, .int .i64 b] w (TellW w (.ok M2))) (hin : ¬ (a ≤ p ∧ p < b)) (hown : ownA L p = none) :
    Calls Try.prog 7 #[.slice ao L.length c, .agg #[.int .i64 a, .int .i64 b, .bool x2, .bool x3, .bool x4], .int .i64 p] w fun e w' => e = .returned (.bool true) ∧ Below w.heap.size w w' := by
  have H0 : Hid (Bx1 w (w.alloc (.cells (AAr.arr ⟨a, b, x2, x3, x4⟩) 32)) ⟨a, b, x2, x3, x4⟩) := Bx1.new w ⟨a, b, x2, x3, x4⟩
  have hU := up_any (w.alloc (.cells (AAr.arr ⟨a, b, x2, x3, x4⟩) 32))
  unfold AAr.arr at H0 hU
  simp only at H0 hU
  have HS : Hid (Sn rAAr w ao L) := hs
  have HM : Hid (L.length ≤ maxLen) := hm
  have h200z : ¬ (200 : Int) < (L.length : Int) := by omega
  have hm' : L.length ≤ 9223372036854775807 := by unfold maxLen at hm; omega
  clear hs hm h200
  have hC := code3
  have hnr := nrs false false
  have hF := fun w ao c => find_none (L := L) (p := p) s1.sure.1 hown w ao c
  have ho1 : ownA M1 p = none := by rw [s1.own p, if_neg hin, hown]
  have HL1 : Hid (M1.length ≤ maxLen) := by have := s1.sure.2.2.2; unfold maxLen; show _ ≤ _; omega
  have hF1 := fun w ao c => find_none (L := M1) (p := p) (s1.sure.2.2.1.may s1.sure.2.2.2) ho1 w ao c
  clear ho1
  have ho2 : ownA M2 p = none := by rw [s2.own p, if_neg hin, hown]
  have HL2 : Hid (M2.length ≤ maxLen) := by have := s2.sure.2.2.2; unfold maxLen; show _ ≤ _; omega
  have hF2 := fun w ao c => find_none (L := M2) (p := p) (s2.sure.2.2.1.may s2.sure.2.2.2) ho2 w ao c
  clear ho2
  clear s1 s2 hown
  obtain ⟨ib, hib⟩ : ∃ ib : Bool, ib = decide (a ≤ p ∧ p < b) := ⟨_, rfl⟩
  have HIB : Hid (ib = decide (a ≤ p ∧ p < b)) := hib
  clear hib
  have HIN : Hid _ := hin
  clear hin
  go_enter Try.func7, Try.ntmps7
  go_wp2_with fail
  refine hU.mono ?_
  rintro e w1 ⟨rfl, hb1⟩
  have H1 : Hid (Bx1 w w1 ⟨a, b, x2, x3, x4⟩) := H0.out.below hb1
  have HS1 : Hid (Sn rAAr w1 ao L) := HS.out.below H1.out.1
  clear hU hb1 H0 HS
  obtain ⟨c0, c1, c2, c3, c4⟩ := AAr.laid (d := ⟨a, b, x2, x3, x4⟩) (H1.out.2.1)
  simp only at c0 c1 c2 c3 c4
  go_wp2_with fail
  refine (q1 w1 ao c HS1.out HM.out).mono ?_
  rintro e w2 ⟨ao1, k1, rfl, hr1, hb1⟩
  have H2 : Hid (Bx1 w w2 ⟨a, b, x2, x3, x4⟩) := H1.out.below hb1.out
  have HS2 : Hid (Sn rAAr w2 ao L) := HS1.out.below hb1.out
  have S12 : Hid (Sn rAAr w2 ao1 M1) := hr1.out.sn
  clear hr1
  clear c0 c1 c2 c3 c4 hb1 H1 HS1 q1
  obtain ⟨c0, c1, c2, c3, c4⟩ := AAr.laid (d := ⟨a, b, x2, x3, x4⟩) (H2.out.2.1)
  simp only at c0 c1 c2 c3 c4
  go_wp2_with fail
  refine (q2 w2 ao c HS2.out HM.out).mono ?_
  rintro e w3 ⟨ao2, k2, rfl, hr2, hb2⟩
  have H3 : Hid (Bx1 w w3 ⟨a, b, x2, x3, x4⟩) := H2.out.below hb2.out
  have hf := hF w3 ao c (HS2.out.below hb2.out) HM.out
  have S13 : Hid (Sn rAAr w3 ao1 M1) := S12.out.below hb2.out
  clear S12
  have S23 : Hid (Sn rAAr w3 ao2 M2) := hr2.out.sn
  clear hr2
  clear c0 c1 c2 c3 c4 hb2 H2 HS2 q2 hF
  go_wp2_with fail
  refine hf.mono ?_
  rintro e w4 ⟨rfl, hb3⟩
  have H4 : Hid (Bx1 w w4 ⟨a, b, x2, x3, x4⟩) := H3.out.below hb3.out
  have S14 : Hid (Sn rAAr w4 ao1 M1) := S13.out.below hb3.out
  clear S13
  have S24 : Hid (Sn rAAr w4 ao2 M2) := S23.out.below hb3.out
  clear S23
  clear hf hb3 H3
  go_upto_region 7 with fail
  go_name_world W4 hW4
  have H5 : Hid (Fy w W4 ⟨a, b, x2, x3, x4⟩ w4.heap.size ⟨0, 0, false, false, false⟩) := by rw [← hW4]; exact Fy.new H4.out ⟨0, 0, false, false, false⟩
  have S15 : Hid (Sn rAAr W4 ao1 M1) := by rw [← hW4]; exact S14.out.below (new_below _ _)
  clear S14
  have S25 : Hid (Sn rAAr W4 ao2 M2) := by rw [← hW4]; exact S24.out.below (new_below _ _)
  clear S24
  clear hW4 H4
  generalize w4.heap.size = gb at *
  obtain ⟨c0, c1, c2, c3, c4⟩ := AAr.laid (d := ⟨a, b, x2, x3, x4⟩) (H5.out.1.2.1)
  simp only at c0 c1 c2 c3 c4
  go_cut [14] from 45 to 54 (fun s14 wx => s14 = .bool ib ∧ W4 = wx)
  case first =>
    clear H5
    by_cases h1 : a ≤ p
    · by_cases h2 : p < b
      · go_wp2_with fail
        go_meet
        exact ⟨by rw [HIB.out, decide_eq_true (by omega)], rfl⟩
      · go_wp2_with fail
        go_meet
        exact ⟨by rw [HIB.out, decide_eq_false (by omega)], rfl⟩
    · go_wp2_with fail
      go_meet
      exact ⟨by rw [HIB.out, decide_eq_false (by omega)], rfl⟩
  case rest =>
  obtain ⟨rfl, rfl⟩ := hcut
  apply_assumption
  obtain rfl : ib = false := by rw [HIB.out]; exact decide_eq_false HIN.out
  clear HIB HIN
  have hf := hF1 W4 ao1 k1 S15.out HL1.out
  clear hF1
  go_wp2_with fail
  refine hf.mono ?_
  rintro e v1 ⟨rfl, hb1⟩
  have H6 : Hid (Fy w v1 ⟨a, b, x2, x3, x4⟩ gb ⟨0, 0, false, false, false⟩) := H5.out.below hb1.out
  have S26 : Hid (Sn rAAr v1 ao2 M2) := S25.out.below hb1.out
  clear S25
  clear hf hb1 H5 S15 c0 c1 c2 c3 c4
  go_upto_region 10 with fail
  go_name_world V1 hV1
  have H7 : Hid (Fz w V1 ⟨a, b, x2, x3, x4⟩ gb ⟨0, 0, false, false, false⟩ v1.heap.size ⟨0, 0, false, false, false⟩) := by rw [← hV1]; exact Fz.new H6.out ⟨0, 0, false, false, false⟩
  have S27 : Hid (Sn rAAr V1 ao2 M2) := by rw [← hV1]; exact S26.out.below (new_below _ _)
  clear S26
  clear hV1 H6
  generalize v1.heap.size = gc1 at *
  obtain ⟨c0, c1, c2, c3, c4⟩ := AAr.laid (d := ⟨a, b, x2, x3, x4⟩) (H7.out.1.1.2.1)
  simp only at c0 c1 c2 c3 c4
  obtain ⟨b0, b1, b2, b3, b4⟩ := AAr.laid (d := ⟨0, 0, false, false, false⟩) (H7.out.1.2)
  simp only at b0 b1 b2 b3 b4
  obtain ⟨f0, f1, f2, f3, f4⟩ := AAr.laid (d := ⟨0, 0, false, false, false⟩) (H7.out.2)
  simp only at f0 f1 f2 f3 f4
  have H8 : Hid (Fy w V1 ⟨a, b, x2, x3, x4⟩ gb ⟨0, 0, false, false, false⟩) := H7.out.1
  clear H7
  have S28 : Hid (Sn rAAr V1 ao2 M2) := S27.out
  clear S27
  go_upto_region 14 with (go_at_call 27; refine (hC _).mono ?_; rintro e w9 ⟨rfl, hw⟩; obtain rfl := hw.symm; clear hw)
  clear b0 b1 b2 b3 b4 f0 f1 f2 f3 f4
  have hf := hF2 V1 ao2 k2 S28.out HL2.out
  clear hF2
  go_wp2_with fail
  refine hf.mono ?_
  rintro e v2 ⟨rfl, hb2⟩
  have H9 : Hid (Fy w v2 ⟨a, b, x2, x3, x4⟩ gb ⟨0, 0, false, false, false⟩) := H8.out.below hb2.out
  clear hf hb2 H8 S28 c0 c1 c2 c3 c4
  go_upto_region 16 with fail
  go_name_world V2 hV2
  have H10 : Hid (Fz w V2 ⟨a, b, x2, x3, x4⟩ gb ⟨0, 0, false, false, false⟩ v2.heap.size ⟨0, 0, false, false, false⟩) := by rw [← hV2]; exact Fz.new H9.out ⟨0, 0, false, false, false⟩
  clear hV2 H9
  generalize v2.heap.size = gc2 at *
  obtain ⟨c0, c1, c2, c3, c4⟩ := AAr.laid (d := ⟨a, b, x2, x3, x4⟩) (H10.out.1.1.2.1)
  simp only at c0 c1 c2 c3 c4
  obtain ⟨b0, b1, b2, b3, b4⟩ := AAr.laid (d := ⟨0, 0, false, false, false⟩) (H10.out.1.2)
  simp only at b0 b1 b2 b3 b4
  obtain ⟨f0, f1, f2, f3, f4⟩ := AAr.laid (d := ⟨0, 0, false, false, false⟩) (H10.out.2)
  simp only at f0 f1 f2 f3 f4
  have H11 : Hid (Fy w V2 ⟨a, b, x2, x3, x4⟩ gb ⟨0, 0, false, false, false⟩) := H10.out.1
  clear H10
  go_wp2_with (go_at_call 27; refine (hC _).mono ?_; rintro e w9 ⟨rfl, hw⟩; obtain rfl := hw.symm; clear hw)
  go_ret
  exact ⟨rfl, H11.out.1.1⟩
set_option maxRecDepth 100000 in
set_option maxHeartbeats 16000000 in
theorem keeps_okok_os {w : World} {ao : Option Addr} {c : Nat} {L : List AAr} (hs : Sn rAAr w ao L) (hm : L.length ≤ maxLen) (h200 : L.length ≤ 200) {a b : Int} {x2 x3 x4 : Bool} {p : Int} {M1 : List AAr} (s1 : LayS L a b (layA (ownA L) a b (some (x2, x3, x4))) (.ok M1)) {M2 : List AAr} (s2 : LayS L a b (layA (ownA L) a b none) (.ok M2)) (q1 : ∀ w ao c, Sn rAAr w ao L → L.length ≤ maxLen → Calls Try.prog 20 #[.slice ao L.length c, .agg #[.int .i64 a, .int .i64 b, .bool x2, .bool x3, .bool x4]] w (TellW w (.ok M1))) (q2 : ∀ w ao c, Sn rAAr w ao L → L.length ≤ maxLen → Calls Try.prog 21 #[.slice ao L.length c, .int .i64 a, .int .i64 b] w (TellW w (.ok M2))) (hin : ¬ (a ≤ p ∧ p < b)) {t1 t2 t3 : Bool} (hown : ownA L p = some (t1, t2, t3)) :
    Calls Try.prog 7 #[.slice ao L.length c, .agg #[.int .i64 a, .int .i64 b, .bool x2, .bool x3, .bool x4], .int .i64 p] w fun e w' => e = .returned (.bool true) ∧ Below w.heap.size w w' := by
  have H0 : Hid (Bx1 w (w.alloc (.cells (AAr.arr ⟨a, b, x2, x3, x4⟩) 32)) ⟨a, b, x2, x3, x4⟩) := Bx1.new w ⟨a, b, x2, x3, x4⟩
  have hU := up_any (w.alloc (.cells (AAr.arr ⟨a, b, x2, x3, x4⟩) 32))
  unfold AAr.arr at H0 hU
  simp only at H0 hU
  have HS : Hid (Sn rAAr w ao L) := hs
  have HM : Hid (L.length ≤ maxLen) := hm
  have h200z : ¬ (200 : Int) < (L.length : Int) := by omega
  have hm' : L.length ≤ 9223372036854775807 := by unfold maxLen at hm; omega
  clear hs hm h200
  have hC := code_nil
  have hnr := nrs t1 t2
  have hF := fun w ao c => find_some (L := L) (p := p) s1.sure.1 hown w ao c
  have ho1 : ownA M1 p = some (t1, t2, t3) := by rw [s1.own p, if_neg hin, hown]
  have HL1 : Hid (M1.length ≤ maxLen) := by have := s1.sure.2.2.2; unfold maxLen; show _ ≤ _; omega
  have hF1 := fun w ao c => find_some (L := M1) (p := p) (s1.sure.2.2.1.may s1.sure.2.2.2) ho1 w ao c
  clear ho1
  simp only at hF1
  have ho2 : ownA M2 p = some (t1, t2, t3) := by rw [s2.own p, if_neg hin, hown]
  have HL2 : Hid (M2.length ≤ maxLen) := by have := s2.sure.2.2.2; unfold maxLen; show _ ≤ _; omega
  have hF2 := fun w ao c => find_some (L := M2) (p := p) (s2.sure.2.2.1.may s2.sure.2.2.2) ho2 w ao c
  clear ho2
  simp only at hF2
  simp only at hF
  clear s1 s2 hown
  obtain ⟨ib, hib⟩ : ∃ ib : Bool, ib = decide (a ≤ p ∧ p < b) := ⟨_, rfl⟩
  have HIB : Hid (ib = decide (a ≤ p ∧ p < b)) := hib
  clear hib
  have HIN : Hid _ := hin
  clear hin
  go_enter Try.func7, Try.ntmps7
  go_wp2_with fail
  refine hU.mono ?_
  rintro e w1 ⟨rfl, hb1⟩
  have H1 : Hid (Bx1 w w1 ⟨a, b, x2, x3, x4⟩) := H0.out.below hb1
  have HS1 : Hid (Sn rAAr w1 ao L) := HS.out.below H1.out.1
  clear hU hb1 H0 HS
  obtain ⟨c0, c1, c2, c3, c4⟩ := AAr.laid (d := ⟨a, b, x2, x3, x4⟩) (H1.out.2.1)
  simp only at c0 c1 c2 c3 c4
  go_wp2_with fail
  refine (q1 w1 ao c HS1.out HM.out).mono ?_
  rintro e w2 ⟨ao1, k1, rfl, hr1, hb1⟩
  have H2 : Hid (Bx1 w w2 ⟨a, b, x2, x3, x4⟩) := H1.out.below hb1.out
  have HS2 : Hid (Sn rAAr w2 ao L) := HS1.out.below hb1.out
  have S12 : Hid (Sn rAAr w2 ao1 M1) := hr1.out.sn
  clear hr1
  clear c0 c1 c2 c3 c4 hb1 H1 HS1 q1
  obtain ⟨c0, c1, c2, c3, c4⟩ := AAr.laid (d := ⟨a, b, x2, x3, x4⟩) (H2.out.2.1)
  simp only at c0 c1 c2 c3 c4
  go_wp2_with fail
  refine (q2 w2 ao c HS2.out HM.out).mono ?_
  rintro e w3 ⟨ao2, k2, rfl, hr2, hb2⟩
  have H3 : Hid (Bx1 w w3 ⟨a, b, x2, x3, x4⟩) := H2.out.below hb2.out
  have hf := hF w3 ao c (HS2.out.below hb2.out) HM.out
  have S13 : Hid (Sn rAAr w3 ao1 M1) := S12.out.below hb2.out
  clear S12
  have S23 : Hid (Sn rAAr w3 ao2 M2) := hr2.out.sn
  clear hr2
  clear c0 c1 c2 c3 c4 hb2 H2 HS2 q2 hF
  go_wp2_with fail
  refine hf.mono ?_
  rintro e w4 ⟨y1, y2, rfl, -, hb3⟩
  have H4 : Hid (Bx1 w w4 ⟨a, b, x2, x3, x4⟩) := H3.out.below hb3.out
  have S14 : Hid (Sn rAAr w4 ao1 M1) := S13.out.below hb3.out
  clear S13
  have S24 : Hid (Sn rAAr w4 ao2 M2) := S23.out.below hb3.out
  clear S23
  clear hf hb3 H3
  go_upto_region 7 with fail
  go_name_world W4 hW4
  have H5 : Hid (Fy w W4 ⟨a, b, x2, x3, x4⟩ w4.heap.size ⟨y1, y2, t1, t2, t3⟩) := by rw [← hW4]; exact Fy.new H4.out ⟨y1, y2, t1, t2, t3⟩
  have S15 : Hid (Sn rAAr W4 ao1 M1) := by rw [← hW4]; exact S14.out.below (new_below _ _)
  clear S14
  have S25 : Hid (Sn rAAr W4 ao2 M2) := by rw [← hW4]; exact S24.out.below (new_below _ _)
  clear S24
  clear hW4 H4
  generalize w4.heap.size = gb at *
  obtain ⟨c0, c1, c2, c3, c4⟩ := AAr.laid (d := ⟨a, b, x2, x3, x4⟩) (H5.out.1.2.1)
  simp only at c0 c1 c2 c3 c4
  go_cut [14] from 45 to 54 (fun s14 wx => s14 = .bool ib ∧ W4 = wx)
  case first =>
    clear H5
    by_cases h1 : a ≤ p
    · by_cases h2 : p < b
      · go_wp2_with fail
        go_meet
        exact ⟨by rw [HIB.out, decide_eq_true (by omega)], rfl⟩
      · go_wp2_with fail
        go_meet
        exact ⟨by rw [HIB.out, decide_eq_false (by omega)], rfl⟩
    · go_wp2_with fail
      go_meet
      exact ⟨by rw [HIB.out, decide_eq_false (by omega)], rfl⟩
  case rest =>
  obtain ⟨rfl, rfl⟩ := hcut
  apply_assumption
  obtain rfl : ib = false := by rw [HIB.out]; exact decide_eq_false HIN.out
  clear HIB HIN
  have hf := hF1 W4 ao1 k1 S15.out HL1.out
  clear hF1
  go_wp2_with fail
  refine hf.mono ?_
  rintro e v1 ⟨e11, e21, rfl, -, hb1⟩
  have H6 : Hid (Fy w v1 ⟨a, b, x2, x3, x4⟩ gb ⟨y1, y2, t1, t2, t3⟩) := H5.out.below hb1.out
  have S26 : Hid (Sn rAAr v1 ao2 M2) := S25.out.below hb1.out
  clear S25
  clear hf hb1 H5 S15 c0 c1 c2 c3 c4
  go_upto_region 10 with fail
  go_name_world V1 hV1
  have H7 : Hid (Fz w V1 ⟨a, b, x2, x3, x4⟩ gb ⟨y1, y2, t1, t2, t3⟩ v1.heap.size ⟨e11, e21, t1, t2, t3⟩) := by rw [← hV1]; exact Fz.new H6.out ⟨e11, e21, t1, t2, t3⟩
  have S27 : Hid (Sn rAAr V1 ao2 M2) := by rw [← hV1]; exact S26.out.below (new_below _ _)
  clear S26
  clear hV1 H6
  generalize v1.heap.size = gc1 at *
  obtain ⟨c0, c1, c2, c3, c4⟩ := AAr.laid (d := ⟨a, b, x2, x3, x4⟩) (H7.out.1.1.2.1)
  simp only at c0 c1 c2 c3 c4
  obtain ⟨b0, b1, b2, b3, b4⟩ := AAr.laid (d := ⟨y1, y2, t1, t2, t3⟩) (H7.out.1.2)
  simp only at b0 b1 b2 b3 b4
  obtain ⟨f0, f1, f2, f3, f4⟩ := AAr.laid (d := ⟨e11, e21, t1, t2, t3⟩) (H7.out.2)
  simp only at f0 f1 f2 f3 f4
  have H8 : Hid (Fy w V1 ⟨a, b, x2, x3, x4⟩ gb ⟨y1, y2, t1, t2, t3⟩) := H7.out.1
  clear H7
  have S28 : Hid (Sn rAAr V1 ao2 M2) := S27.out
  clear S27
  go_upto_region 14 with (go_at_call 27; refine (hC _).mono ?_; rintro e w9 ⟨rfl, hw⟩; obtain rfl := hw.symm; clear hw)
  clear b0 b1 b2 b3 b4 f0 f1 f2 f3 f4
  have hf := hF2 V1 ao2 k2 S28.out HL2.out
  clear hF2
  go_wp2_with fail
  refine hf.mono ?_
  rintro e v2 ⟨e12, e22, rfl, -, hb2⟩
  have H9 : Hid (Fy w v2 ⟨a, b, x2, x3, x4⟩ gb ⟨y1, y2, t1, t2, t3⟩) := H8.out.below hb2.out
  clear hf hb2 H8 S28 c0 c1 c2 c3 c4
  go_upto_region 16 with fail
  go_name_world V2 hV2
  have H10 : Hid (Fz w V2 ⟨a, b, x2, x3, x4⟩ gb ⟨y1, y2, t1, t2, t3⟩ v2.heap.size ⟨e12, e22, t1, t2, t3⟩) := by rw [← hV2]; exact Fz.new H9.out ⟨e12, e22, t1, t2, t3⟩
  clear hV2 H9
  generalize v2.heap.size = gc2 at *
  obtain ⟨c0, c1, c2, c3, c4⟩ := AAr.laid (d := ⟨a, b, x2, x3, x4⟩) (H10.out.1.1.2.1)
  simp only at c0 c1 c2 c3 c4
  obtain ⟨b0, b1, b2, b3, b4⟩ := AAr.laid (d := ⟨y1, y2, t1, t2, t3⟩) (H10.out.1.2)
  simp only at b0 b1 b2 b3 b4
  obtain ⟨f0, f1, f2, f3, f4⟩ := AAr.laid (d := ⟨e12, e22, t1, t2, t3⟩) (H10.out.2)
  simp only at f0 f1 f2 f3 f4
  have H11 : Hid (Fy w V2 ⟨a, b, x2, x3, x4⟩ gb ⟨y1, y2, t1, t2, t3⟩) := H10.out.1
  clear H10
  go_wp2_with (go_at_call 27; refine (hC _).mono ?_; rintro e w9 ⟨rfl, hw⟩; obtain rfl := hw.symm; clear hw)
  go_ret
  exact ⟨rfl, H11.out.1.1⟩
set_option maxRecDepth 100000 in
set_option maxHeartbeats 16000000 in
theorem keeps_okerr_in {w : World} {ao : Option Addr} {c : Nat} {L : List AAr} (hs : Sn rAAr w ao L) (hm : L.length ≤ maxLen) (h200 : L.length ≤ 200) {a b : Int} {x2 x3 x4 : Bool} {p : Int} {M1 : List AAr} (s1 : LayS L a b (layA (ownA L) a b (some (x2, x3, x4))) (.ok M1)) {n2 : Int} (q1 : ∀ w ao c, Sn rAAr w ao L → L.length ≤ maxLen → Calls Try.prog 20 #[.slice ao L.length c, .agg #[.int .i64 a, .int .i64 b, .bool x2, .bool x3, .bool x4]] w (TellW w (.ok M1))) (q2 : ∀ w ao c, Sn rAAr w ao L → L.length ≤ maxLen → Calls Try.prog 21 #[.slice ao L.length c, .int .i64 a, .int .i64 b] w (TellW w (.error n2))) (hin : a ≤ p ∧ p < b) :
    Calls Try.prog 7 #[.slice ao L.length c, .agg #[.int .i64 a, .int .i64 b, .bool x2, .bool x3, .bool x4], .int .i64 p] w fun e w' => e = .returned (.bool true) ∧ Below w.heap.size w w' := by
  have H0 : Hid (Bx1 w (w.alloc (.cells (AAr.arr ⟨a, b, x2, x3, x4⟩) 32)) ⟨a, b, x2, x3, x4⟩) := Bx1.new w ⟨a, b, x2, x3, x4⟩
  have hU := up_any (w.alloc (.cells (AAr.arr ⟨a, b, x2, x3, x4⟩) 32))
  unfold AAr.arr at H0 hU
  simp only at H0 hU
  have HS : Hid (Sn rAAr w ao L) := hs
  have HM : Hid (L.length ≤ maxLen) := hm
  have h200z : ¬ (200 : Int) < (L.length : Int) := by omega
  have hm' : L.length ≤ 9223372036854775807 := by unfold maxLen at hm; omega
  clear hs hm h200
  have hnr := nrs x2 x3
  have hF := fun w ao c => find_gen (L := L) (p := p) w ao c
  have ho1 : ownA M1 p = some (x2, x3, x4) := by rw [s1.own p, if_pos hin]
  have HL1 : Hid (M1.length ≤ maxLen) := by have := s1.sure.2.2.2; unfold maxLen; show _ ≤ _; omega
  have hF1 := fun w ao c => find_some (L := M1) (p := p) (s1.sure.2.2.1.may s1.sure.2.2.2) ho1 w ao c
  clear ho1
  simp only at hF1
  clear s1
  obtain ⟨ib, hib⟩ : ∃ ib : Bool, ib = decide (a ≤ p ∧ p < b) := ⟨_, rfl⟩
  have HIB : Hid (ib = decide (a ≤ p ∧ p < b)) := hib
  clear hib
  have HIN : Hid _ := hin
  clear hin
  go_enter Try.func7, Try.ntmps7
  go_wp2_with fail
  refine hU.mono ?_
  rintro e w1 ⟨rfl, hb1⟩
  have H1 : Hid (Bx1 w w1 ⟨a, b, x2, x3, x4⟩) := H0.out.below hb1
  have HS1 : Hid (Sn rAAr w1 ao L) := HS.out.below H1.out.1
  clear hU hb1 H0 HS
  obtain ⟨c0, c1, c2, c3, c4⟩ := AAr.laid (d := ⟨a, b, x2, x3, x4⟩) (H1.out.2.1)
  simp only at c0 c1 c2 c3 c4
  go_wp2_with fail
  refine (q1 w1 ao c HS1.out HM.out).mono ?_
  rintro e w2 ⟨ao1, k1, rfl, hr1, hb1⟩
  have H2 : Hid (Bx1 w w2 ⟨a, b, x2, x3, x4⟩) := H1.out.below hb1.out
  have HS2 : Hid (Sn rAAr w2 ao L) := HS1.out.below hb1.out
  have S12 : Hid (Sn rAAr w2 ao1 M1) := hr1.out.sn
  clear hr1
  clear c0 c1 c2 c3 c4 hb1 H1 HS1 q1
  obtain ⟨c0, c1, c2, c3, c4⟩ := AAr.laid (d := ⟨a, b, x2, x3, x4⟩) (H2.out.2.1)
  simp only at c0 c1 c2 c3 c4
  go_wp2_with fail
  refine (q2 w2 ao c HS2.out HM.out).mono ?_
  rintro e w3 ⟨rfl, hb2⟩
  have H3 : Hid (Bx1 w w3 ⟨a, b, x2, x3, x4⟩) := H2.out.below hb2.out
  have hf := hF w3 ao c (HS2.out.below hb2.out) HM.out
  have S13 : Hid (Sn rAAr w3 ao1 M1) := S12.out.below hb2.out
  clear S12
  clear c0 c1 c2 c3 c4 hb2 H2 HS2 q2 hF
  go_wp2_with fail
  refine hf.mono ?_
  rintro e w4 ⟨y1, y2, z1, z2, z3, u, rfl, hb3⟩
  have H4 : Hid (Bx1 w w4 ⟨a, b, x2, x3, x4⟩) := H3.out.below hb3.out
  have S14 : Hid (Sn rAAr w4 ao1 M1) := S13.out.below hb3.out
  clear S13
  clear hf hb3 H3
  go_upto_region 7 with fail
  go_name_world W4 hW4
  have H5 : Hid (Fy w W4 ⟨a, b, x2, x3, x4⟩ w4.heap.size ⟨y1, y2, z1, z2, z3⟩) := by rw [← hW4]; exact Fy.new H4.out ⟨y1, y2, z1, z2, z3⟩
  have S15 : Hid (Sn rAAr W4 ao1 M1) := by rw [← hW4]; exact S14.out.below (new_below _ _)
  clear S14
  clear hW4 H4
  generalize w4.heap.size = gb at *
  obtain ⟨c0, c1, c2, c3, c4⟩ := AAr.laid (d := ⟨a, b, x2, x3, x4⟩) (H5.out.1.2.1)
  simp only at c0 c1 c2 c3 c4
  go_cut [14] from 45 to 54 (fun s14 wx => s14 = .bool ib ∧ W4 = wx)
  case first =>
    clear H5
    by_cases h1 : a ≤ p
    · by_cases h2 : p < b
      · go_wp2_with fail
        go_meet
        exact ⟨by rw [HIB.out, decide_eq_true (by omega)], rfl⟩
      · go_wp2_with fail
        go_meet
        exact ⟨by rw [HIB.out, decide_eq_false (by omega)], rfl⟩
    · go_wp2_with fail
      go_meet
      exact ⟨by rw [HIB.out, decide_eq_false (by omega)], rfl⟩
  case rest =>
  obtain ⟨rfl, rfl⟩ := hcut
  apply_assumption
  obtain rfl : ib = true := by rw [HIB.out]; exact decide_eq_true HIN.out
  clear HIB HIN
  have hf := hF1 W4 ao1 k1 S15.out HL1.out
  clear hF1
  go_wp2_with fail
  refine hf.mono ?_
  rintro e v1 ⟨e11, e21, rfl, -, hb1⟩
  have H6 : Hid (Fy w v1 ⟨a, b, x2, x3, x4⟩ gb ⟨y1, y2, z1, z2, z3⟩) := H5.out.below hb1.out
  clear hf hb1 H5 S15 c0 c1 c2 c3 c4
  go_upto_region 10 with fail
  go_name_world V1 hV1
  have H7 : Hid (Fz w V1 ⟨a, b, x2, x3, x4⟩ gb ⟨y1, y2, z1, z2, z3⟩ v1.heap.size ⟨e11, e21, x2, x3, x4⟩) := by rw [← hV1]; exact Fz.new H6.out ⟨e11, e21, x2, x3, x4⟩
  clear hV1 H6
  generalize v1.heap.size = gc1 at *
  obtain ⟨c0, c1, c2, c3, c4⟩ := AAr.laid (d := ⟨a, b, x2, x3, x4⟩) (H7.out.1.1.2.1)
  simp only at c0 c1 c2 c3 c4
  obtain ⟨b0, b1, b2, b3, b4⟩ := AAr.laid (d := ⟨y1, y2, z1, z2, z3⟩) (H7.out.1.2)
  simp only at b0 b1 b2 b3 b4
  obtain ⟨f0, f1, f2, f3, f4⟩ := AAr.laid (d := ⟨e11, e21, x2, x3, x4⟩) (H7.out.2)
  simp only at f0 f1 f2 f3 f4
  have H8 : Hid (Fy w V1 ⟨a, b, x2, x3, x4⟩ gb ⟨y1, y2, z1, z2, z3⟩) := H7.out.1
  clear H7
  go_wp2_with fail
  go_ret
  exact ⟨rfl, H8.out.1.1⟩
set_option maxRecDepth 100000 in
set_option maxHeartbeats 16000000 in
theorem keeps_okerr_on {w : World} {ao : Option Addr} {c : Nat} {L : List AAr} (hs : Sn rAAr w ao L) (hm : L.length ≤ maxLen) (h200 : L.length ≤ 200) {a b : Int} {x2 x3 x4 : Bool} {p : Int} {M1 : List AAr} (s1 : LayS L a b (layA (ownA L) a b (some (x2, x3, x4))) (.ok M1)) {n2 : Int} (q1 : ∀ w ao c, Sn rAAr w ao L → L.length ≤ maxLen → Calls Try.prog 20 #[.slice ao L.length c, .agg #[.int .i64 a, .int .i64 b, .bool x2, .bool x3, .bool x4]] w (TellW w (.ok M1))) (q2 : ∀ w ao c, Sn rAAr w ao L → L.length ≤ maxLen → Calls Try.prog 21 #[.slice ao L.length c, .int .i64 a, .int .i64 b] w (TellW w (.error n2))) (hin : ¬ (a ≤ p ∧ p < b)) (hown : ownA L p = none) :
    Calls Try.prog 7 #[.slice ao L.length c, .agg #[.int .i64 a, .int .i64 b, .bool x2, .bool x3, .bool x4], .int .i64 p] w fun e w' => e = .returned (.bool true) ∧ Below w.heap.size w w' := by
  have H0 : Hid (Bx1 w (w.alloc (.cells (AAr.arr ⟨a, b, x2, x3, x4⟩) 32)) ⟨a, b, x2, x3, x4⟩) := Bx1.new w ⟨a, b, x2, x3, x4⟩
  have hU := up_any (w.alloc (.cells (AAr.arr ⟨a, b, x2, x3, x4⟩) 32))
  unfold AAr.arr at H0 hU
  simp only at H0 hU
  have HS : Hid (Sn rAAr w ao L) := hs
  have HM : Hid (L.length ≤ maxLen) := hm
  have h200z : ¬ (200 : Int) < (L.length : Int) := by omega
  have hm' : L.length ≤ 9223372036854775807 := by unfold maxLen at hm; omega
  clear hs hm h200
  have hC := code3
  have hnr := nrs false false
  have hF := fun w ao c => find_none (L := L) (p := p) s1.sure.1 hown w ao c
  have ho1 : ownA M1 p = none := by rw [s1.own p, if_neg hin, hown]
  have HL1 : Hid (M1.length ≤ maxLen) := by have := s1.sure.2.2.2; unfold maxLen; show _ ≤ _; omega
  have hF1 := fun w ao c => find_none (L := M1) (p := p) (s1.sure.2.2.1.may s1.sure.2.2.2) ho1 w ao c
  clear ho1
  clear s1 hown
  obtain ⟨ib, hib⟩ : ∃ ib : Bool, ib = decide (a ≤ p ∧ p < b) := ⟨_, rfl⟩
  have HIB : Hid (ib = decide (a ≤ p ∧ p < b)) := hib
  clear hib
  have HIN : Hid _ := hin
  clear hin
  go_enter Try.func7, Try.ntmps7
  go_wp2_with fail
  refine hU.mono ?_
  rintro e w1 ⟨rfl, hb1⟩
  have H1 : Hid (Bx1 w w1 ⟨a, b, x2, x3, x4⟩) := H0.out.below hb1
  have HS1 : Hid (Sn rAAr w1 ao L) := HS.out.below H1.out.1
  clear hU hb1 H0 HS
  obtain ⟨c0, c1, c2, c3, c4⟩ := AAr.laid (d := ⟨a, b, x2, x3, x4⟩) (H1.out.2.1)
  simp only at c0 c1 c2 c3 c4
  go_wp2_with fail
  refine (q1 w1 ao c HS1.out HM.out).mono ?_
  rintro e w2 ⟨ao1, k1, rfl, hr1, hb1⟩
  have H2 : Hid (Bx1 w w2 ⟨a, b, x2, x3, x4⟩) := H1.out.below hb1.out
  have HS2 : Hid (Sn rAAr w2 ao L) := HS1.out.below hb1.out
  have S12 : Hid (Sn rAAr w2 ao1 M1) := hr1.out.sn
  clear hr1
  clear c0 c1 c2 c3 c4 hb1 H1 HS1 q1
  obtain ⟨c0, c1, c2, c3, c4⟩ := AAr.laid (d := ⟨a, b, x2, x3, x4⟩) (H2.out.2.1)
  simp only at c0 c1 c2 c3 c4
  go_wp2_with fail
  refine (q2 w2 ao c HS2.out HM.out).mono ?_
  rintro e w3 ⟨rfl, hb2⟩
  have H3 : Hid (Bx1 w w3 ⟨a, b, x2, x3, x4⟩) := H2.out.below hb2.out
  have hf := hF w3 ao c (HS2.out.below hb2.out) HM.out
  have S13 : Hid (Sn rAAr w3 ao1 M1) := S12.out.below hb2.out
  clear S12
  clear c0 c1 c2 c3 c4 hb2 H2 HS2 q2 hF
  go_wp2_with fail
  refine hf.mono ?_
  rintro e w4 ⟨rfl, hb3⟩
  have H4 : Hid (Bx1 w w4 ⟨a, b, x2, x3, x4⟩) := H3.out.below hb3.out
  have S14 : Hid (Sn rAAr w4 ao1 M1) := S13.out.below hb3.out
  clear S13
  clear hf hb3 H3
  go_upto_region 7 with fail
  go_name_world W4 hW4
  have H5 : Hid (Fy w W4 ⟨a, b, x2, x3, x4⟩ w4.heap.size ⟨0, 0, false, false, false⟩) := by rw [← hW4]; exact Fy.new H4.out ⟨0, 0, false, false, false⟩
  have S15 : Hid (Sn rAAr W4 ao1 M1) := by rw [← hW4]; exact S14.out.below (new_below _ _)
  clear S14
  clear hW4 H4
  generalize w4.heap.size = gb at *
  obtain ⟨c0, c1, c2, c3, c4⟩ := AAr.laid (d := ⟨a, b, x2, x3, x4⟩) (H5.out.1.2.1)
  simp only at c0 c1 c2 c3 c4
  go_cut [14] from 45 to 54 (fun s14 wx => s14 = .bool ib ∧ W4 = wx)
  case first =>
    clear H5
    by_cases h1 : a ≤ p
    · by_cases h2 : p < b
      · go_wp2_with fail
        go_meet
        exact ⟨by rw [HIB.out, decide_eq_true (by omega)], rfl⟩
      · go_wp2_with fail
        go_meet
        exact ⟨by rw [HIB.out, decide_eq_false (by omega)], rfl⟩
    · go_wp2_with fail
      go_meet
      exact ⟨by rw [HIB.out, decide_eq_false (by omega)], rfl⟩
  case rest =>
  obtain ⟨rfl, rfl⟩ := hcut
  apply_assumption
  obtain rfl : ib = false := by rw [HIB.out]; exact decide_eq_false HIN.out
  clear HIB HIN
  have hf := hF1 W4 ao1 k1 S15.out HL1.out
  clear hF1
  go_wp2_with fail
  refine hf.mono ?_
  rintro e v1 ⟨rfl, hb1⟩
  have H6 : Hid (Fy w v1 ⟨a, b, x2, x3, x4⟩ gb ⟨0, 0, false, false, false⟩) := H5.out.below hb1.out
  clear hf hb1 H5 S15 c0 c1 c2 c3 c4
  go_upto_region 10 with fail
  go_name_world V1 hV1
  have H7 : Hid (Fz w V1 ⟨a, b, x2, x3, x4⟩ gb ⟨0, 0, false, false, false⟩ v1.heap.size ⟨0, 0, false, false, false⟩) := by rw [← hV1]; exact Fz.new H6.out ⟨0, 0, false, false, false⟩
  clear hV1 H6
  generalize v1.heap.size = gc1 at *
  obtain ⟨c0, c1, c2, c3, c4⟩ := AAr.laid (d := ⟨a, b, x2, x3, x4⟩) (H7.out.1.1.2.1)
  simp only at c0 c1 c2 c3 c4
  obtain ⟨b0, b1, b2, b3, b4⟩ := AAr.laid (d := ⟨0, 0, false, false, false⟩) (H7.out.1.2)
  simp only at b0 b1 b2 b3 b4
  obtain ⟨f0, f1, f2, f3, f4⟩ := AAr.laid (d := ⟨0, 0, false, false, false⟩) (H7.out.2)
  simp only at f0 f1 f2 f3 f4
  have H8 : Hid (Fy w V1 ⟨a, b, x2, x3, x4⟩ gb ⟨0, 0, false, false, false⟩) := H7.out.1
  clear H7
  go_wp2_with (go_at_call 27; refine (hC _).mono ?_; rintro e w9 ⟨rfl, hw⟩; obtain rfl := hw.symm; clear hw)
  go_ret
  exact ⟨rfl, H8.out.1.1⟩
set_option maxRecDepth 100000 in
set_option maxHeartbeats 16000000 in
theorem keeps_okerr_os {w : World} {ao : Option Addr} {c : Nat} {L : List AAr} (hs : Sn rAAr w ao L) (hm : L.length ≤ maxLen) (h200 : L.length ≤ 200) {a b : Int} {x2 x3 x4 : Bool} {p : Int} {M1 : List AAr} (s1 : LayS L a b (layA (ownA L) a b (some (x2, x3, x4))) (.ok M1)) {n2 : Int} (q1 : ∀ w ao c, Sn rAAr w ao L → L.length ≤ maxLen → Calls Try.prog 20 #[.slice ao L.length c, .agg #[.int .i64 a, .int .i64 b, .bool x2, .bool x3, .bool x4]] w (TellW w (.ok M1))) (q2 : ∀ w ao c, Sn rAAr w ao L → L.length ≤ maxLen → Calls Try.prog 21 #[.slice ao L.length c, .int .i64 a, .int .i64 b] w (TellW w (.error n2))) (hin : ¬ (a ≤ p ∧ p < b)) {t1 t2 t3 : Bool} (hown : ownA L p = some (t1, t2, t3)) :
    Calls Try.prog 7 #[.slice ao L.length c, .agg #[.int .i64 a, .int .i64 b, .bool x2, .bool x3, .bool x4], .int .i64 p] w fun e w' => e = .returned (.bool true) ∧ Below w.heap.size w w' := by
  have H0 : Hid (Bx1 w (w.alloc (.cells (AAr.arr ⟨a, b, x2, x3, x4⟩) 32)) ⟨a, b, x2, x3, x4⟩) := Bx1.new w ⟨a, b, x2, x3, x4⟩
  have hU := up_any (w.alloc (.cells (AAr.arr ⟨a, b, x2, x3, x4⟩) 32))
  unfold AAr.arr at H0 hU
  simp only at H0 hU
  have HS : Hid (Sn rAAr w ao L) := hs
  have HM : Hid (L.length ≤ maxLen) := hm
  have h200z : ¬ (200 : Int) < (L.length : Int) := by omega
  have hm' : L.length ≤ 9223372036854775807 := by unfold maxLen at hm; omega
  clear hs hm h200
  have hC := code_nil
  have hnr := nrs t1 t2
  have hF := fun w ao c => find_some (L := L) (p := p) s1.sure.1 hown w ao c
  have ho1 : ownA M1 p = some (t1, t2, t3) := by rw [s1.own p, if_neg hin, hown]
  have HL1 : Hid (M1.length ≤ maxLen) := by have := s1.sure.2.2.2; unfold maxLen; show _ ≤ _; omega
  have hF1 := fun w ao c => find_some (L := M1) (p := p) (s1.sure.2.2.1.may s1.sure.2.2.2) ho1 w ao c
  clear ho1
  simp only at hF1
  simp only at hF
  clear s1 hown
  obtain ⟨ib, hib⟩ : ∃ ib : Bool, ib = decide (a ≤ p ∧ p < b) := ⟨_, rfl⟩
  have HIB : Hid (ib = decide (a ≤ p ∧ p < b)) := hib
  clear hib
  have HIN : Hid _ := hin
  clear hin
  go_enter Try.func7, Try.ntmps7
  go_wp2_with fail
  refine hU.mono ?_
  rintro e w1 ⟨rfl, hb1⟩
  have H1 : Hid (Bx1 w w1 ⟨a, b, x2, x3, x4⟩) := H0.out.below hb1
  have HS1 : Hid (Sn rAAr w1 ao L) := HS.out.below H1.out.1
  clear hU hb1 H0 HS
  obtain ⟨c0, c1, c2, c3, c4⟩ := AAr.laid (d := ⟨a, b, x2, x3, x4⟩) (H1.out.2.1)
  simp only at c0 c1 c2 c3 c4
  go_wp2_with fail
  refine (q1 w1 ao c HS1.out HM.out).mono ?_
  rintro e w2 ⟨ao1, k1, rfl, hr1, hb1⟩
  have H2 : Hid (Bx1 w w2 ⟨a, b, x2, x3, x4⟩) := H1.out.below hb1.out
  have HS2 : Hid (Sn rAAr w2 ao L) := HS1.out.below hb1.out
  have S12 : Hid (Sn rAAr w2 ao1 M1) := hr1.out.sn
  clear hr1
  clear c0 c1 c2 c3 c4 hb1 H1 HS1 q1
  obtain ⟨c0, c1, c2, c3, c4⟩ := AAr.laid (d := ⟨a, b, x2, x3, x4⟩) (H2.out.2.1)
  simp only at c0 c1 c2 c3 c4
  go_wp2_with fail
  refine (q2 w2 ao c HS2.out HM.out).mono ?_
  rintro e w3 ⟨rfl, hb2⟩
  have H3 : Hid (Bx1 w w3 ⟨a, b, x2, x3, x4⟩) := H2.out.below hb2.out
  have hf := hF w3 ao c (HS2.out.below hb2.out) HM.out
  have S13 : Hid (Sn rAAr w3 ao1 M1) := S12.out.below hb2.out
  clear S12
  clear c0 c1 c2 c3 c4 hb2 H2 HS2 q2 hF
  go_wp2_with fail
  refine hf.mono ?_
  rintro e w4 ⟨y1, y2, rfl, -, hb3⟩
  have H4 : Hid (Bx1 w w4 ⟨a, b, x2, x3, x4⟩) := H3.out.below hb3.out
  have S14 : Hid (Sn rAAr w4 ao1 M1) := S13.out.below hb3.out
  clear S13
  clear hf hb3 H3
  go_upto_region 7 with fail
  go_name_world W4 hW4
  have H5 : Hid (Fy w W4 ⟨a, b, x2, x3, x4⟩ w4.heap.size ⟨y1, y2, t1, t2, t3⟩) := by rw [← hW4]; exact Fy.new H4.out ⟨y1, y2, t1, t2, t3⟩
  have S15 : Hid (Sn rAAr W4 ao1 M1) := by rw [← hW4]; exact S14.out.below (new_below _ _)
  clear S14
  clear hW4 H4
  generalize w4.heap.size = gb at *
  obtain ⟨c0, c1, c2, c3, c4⟩ := AAr.laid (d := ⟨a, b, x2, x3, x4⟩) (H5.out.1.2.1)
  simp only at c0 c1 c2 c3 c4
  go_cut [14] from 45 to 54 (fun s14 wx => s14 = .bool ib ∧ W4 = wx)
  case first =>
    clear H5
    by_cases h1 : a ≤ p
    · by_cases h2 : p < b
      · go_wp2_with fail
        go_meet
        exact ⟨by rw [HIB.out, decide_eq_true (by omega)], rfl⟩
      · go_wp2_with fail
        go_meet
        exact ⟨by rw [HIB.out, decide_eq_false (by omega)], rfl⟩
    · go_wp2_with fail
      go_meet
      exact ⟨by rw [HIB.out, decide_eq_false (by omega)], rfl⟩
  case rest =>
  obtain ⟨rfl, rfl⟩ := hcut
  apply_assumption
  obtain rfl : ib = false := by rw [HIB.out]; exact decide_eq_false HIN.out
  clear HIB HIN
  have hf := hF1 W4 ao1 k1 S15.out HL1.out
  clear hF1
  go_wp2_with fail
  refine hf.mono ?_
  rintro e v1 ⟨e11, e21, rfl, -, hb1⟩
  have H6 : Hid (Fy w v1 ⟨a, b, x2, x3, x4⟩ gb ⟨y1, y2, t1, t2, t3⟩) := H5.out.below hb1.out
  clear hf hb1 H5 S15 c0 c1 c2 c3 c4
  go_upto_region 10 with fail
  go_name_world V1 hV1
  have H7 : Hid (Fz w V1 ⟨a, b, x2, x3, x4⟩ gb ⟨y1, y2, t1, t2, t3⟩ v1.heap.size ⟨e11, e21, t1, t2, t3⟩) := by rw [← hV1]; exact Fz.new H6.out ⟨e11, e21, t1, t2, t3⟩
  clear hV1 H6
  generalize v1.heap.size = gc1 at *
  obtain ⟨c0, c1, c2, c3, c4⟩ := AAr.laid (d := ⟨a, b, x2, x3, x4⟩) (H7.out.1.1.2.1)
  simp only at c0 c1 c2 c3 c4
  obtain ⟨b0, b1, b2, b3, b4⟩ := AAr.laid (d := ⟨y1, y2, t1, t2, t3⟩) (H7.out.1.2)
  simp only at b0 b1 b2 b3 b4
  obtain ⟨f0, f1, f2, f3, f4⟩ := AAr.laid (d := ⟨e11, e21, t1, t2, t3⟩) (H7.out.2)
  simp only at f0 f1 f2 f3 f4
  have H8 : Hid (Fy w V1 ⟨a, b, x2, x3, x4⟩ gb ⟨y1, y2, t1, t2, t3⟩) := H7.out.1
  clear H7
  go_wp2_with (go_at_call 27; refine (hC _).mono ?_; rintro e w9 ⟨rfl, hw⟩; obtain rfl := hw.symm; clear hw)
  go_ret
  exact ⟨rfl, H8.out.1.1⟩
set_option maxRecDepth 100000 in
set_option maxHeartbeats 16000000 in
theorem keeps_errok_in {w : World} {ao : Option Addr} {c : Nat} {L : List AAr} (hs : Sn rAAr w ao L) (hm : L.length ≤ maxLen) (h200 : L.length ≤ 200) {a b : Int} {x2 x3 x4 : Bool} {p : Int} {n1 : Int} {M2 : List AAr} (s2 : LayS L a b (layA (ownA L) a b none) (.ok M2)) (q1 : ∀ w ao c, Sn rAAr w ao L → L.length ≤ maxLen → Calls Try.prog 20 #[.slice ao L.length c, .agg #[.int .i64 a, .int .i64 b, .bool x2, .bool x3, .bool x4]] w (TellW w (.error n1))) (q2 : ∀ w ao c, Sn rAAr w ao L → L.length ≤ maxLen → Calls Try.prog 21 #[.slice ao L.length c, .int .i64 a, .int .i64 b] w (TellW w (.ok M2))) (hin : a ≤ p ∧ p < b) :
    Calls Try.prog 7 #[.slice ao L.length c, .agg #[.int .i64 a, .int .i64 b, .bool x2, .bool x3, .bool x4], .int .i64 p] w fun e w' => e = .returned (.bool true) ∧ Below w.heap.size w w' := by
  have H0 : Hid (Bx1 w (w.alloc (.cells (AAr.arr ⟨a, b, x2, x3, x4⟩) 32)) ⟨a, b, x2, x3, x4⟩) := Bx1.new w ⟨a, b, x2, x3, x4⟩
  have hU := up_any (w.alloc (.cells (AAr.arr ⟨a, b, x2, x3, x4⟩) 32))
  unfold AAr.arr at H0 hU
  simp only at H0 hU
  have HS : Hid (Sn rAAr w ao L) := hs
  have HM : Hid (L.length ≤ maxLen) := hm
  have h200z : ¬ (200 : Int) < (L.length : Int) := by omega
  have hm' : L.length ≤ 9223372036854775807 := by unfold maxLen at hm; omega
  clear hs hm h200
  have hnr := nrs x2 x3
  have hn3 := neq_err 3
  have hF := fun w ao c => find_gen (L := L) (p := p) w ao c
  have ho2 : ownA M2 p = none := by rw [s2.own p, if_pos hin]
  have HL2 : Hid (M2.length ≤ maxLen) := by have := s2.sure.2.2.2; unfold maxLen; show _ ≤ _; omega
  have hF2 := fun w ao c => find_none (L := M2) (p := p) (s2.sure.2.2.1.may s2.sure.2.2.2) ho2 w ao c
  clear ho2
  clear s2
  obtain ⟨ib, hib⟩ : ∃ ib : Bool, ib = decide (a ≤ p ∧ p < b) := ⟨_, rfl⟩
  have HIB : Hid (ib = decide (a ≤ p ∧ p < b)) := hib
  clear hib
  have HIN : Hid _ := hin
  clear hin
  go_enter Try.func7, Try.ntmps7
  go_wp2_with fail
  refine hU.mono ?_
  rintro e w1 ⟨rfl, hb1⟩
  have H1 : Hid (Bx1 w w1 ⟨a, b, x2, x3, x4⟩) := H0.out.below hb1
  have HS1 : Hid (Sn rAAr w1 ao L) := HS.out.below H1.out.1
  clear hU hb1 H0 HS
  obtain ⟨c0, c1, c2, c3, c4⟩ := AAr.laid (d := ⟨a, b, x2, x3, x4⟩) (H1.out.2.1)
  simp only at c0 c1 c2 c3 c4
  go_wp2_with fail
  refine (q1 w1 ao c HS1.out HM.out).mono ?_
  rintro e w2 ⟨rfl, hb1⟩
  have H2 : Hid (Bx1 w w2 ⟨a, b, x2, x3, x4⟩) := H1.out.below hb1.out
  have HS2 : Hid (Sn rAAr w2 ao L) := HS1.out.below hb1.out
  clear c0 c1 c2 c3 c4 hb1 H1 HS1 q1
  obtain ⟨c0, c1, c2, c3, c4⟩ := AAr.laid (d := ⟨a, b, x2, x3, x4⟩) (H2.out.2.1)
  simp only at c0 c1 c2 c3 c4
  go_wp2_with fail
  refine (q2 w2 ao c HS2.out HM.out).mono ?_
  rintro e w3 ⟨ao2, k2, rfl, hr2, hb2⟩
  have H3 : Hid (Bx1 w w3 ⟨a, b, x2, x3, x4⟩) := H2.out.below hb2.out
  have hf := hF w3 ao c (HS2.out.below hb2.out) HM.out
  have S23 : Hid (Sn rAAr w3 ao2 M2) := hr2.out.sn
  clear hr2
  clear c0 c1 c2 c3 c4 hb2 H2 HS2 q2 hF
  go_wp2_with fail
  refine hf.mono ?_
  rintro e w4 ⟨y1, y2, z1, z2, z3, u, rfl, hb3⟩
  have H4 : Hid (Bx1 w w4 ⟨a, b, x2, x3, x4⟩) := H3.out.below hb3.out
  have S24 : Hid (Sn rAAr w4 ao2 M2) := S23.out.below hb3.out
  clear S23
  clear hf hb3 H3
  go_upto_region 7 with fail
  go_name_world W4 hW4
  have H5 : Hid (Fy w W4 ⟨a, b, x2, x3, x4⟩ w4.heap.size ⟨y1, y2, z1, z2, z3⟩) := by rw [← hW4]; exact Fy.new H4.out ⟨y1, y2, z1, z2, z3⟩
  have S25 : Hid (Sn rAAr W4 ao2 M2) := by rw [← hW4]; exact S24.out.below (new_below _ _)
  clear S24
  clear hW4 H4
  generalize w4.heap.size = gb at *
  obtain ⟨c0, c1, c2, c3, c4⟩ := AAr.laid (d := ⟨a, b, x2, x3, x4⟩) (H5.out.1.2.1)
  simp only at c0 c1 c2 c3 c4
  go_cut [14] from 45 to 54 (fun s14 wx => s14 = .bool ib ∧ W4 = wx)
  case first =>
    clear H5
    by_cases h1 : a ≤ p
    · by_cases h2 : p < b
      · go_wp2_with fail
        go_meet
        exact ⟨by rw [HIB.out, decide_eq_true (by omega)], rfl⟩
      · go_wp2_with fail
        go_meet
        exact ⟨by rw [HIB.out, decide_eq_false (by omega)], rfl⟩
    · go_wp2_with fail
      go_meet
      exact ⟨by rw [HIB.out, decide_eq_false (by omega)], rfl⟩
  case rest =>
  obtain ⟨rfl, rfl⟩ := hcut
  apply_assumption
  obtain rfl : ib = true := by rw [HIB.out]; exact decide_eq_true HIN.out
  clear HIB HIN
  have hf := hF2 W4 ao2 k2 S25.out HL2.out
  clear hF2
  go_wp2_with fail
  refine hf.mono ?_
  rintro e v2 ⟨rfl, hb2⟩
  have H6 : Hid (Fy w v2 ⟨a, b, x2, x3, x4⟩ gb ⟨y1, y2, z1, z2, z3⟩) := H5.out.below hb2.out
  clear hf hb2 H5 S25 c0 c1 c2 c3 c4
  go_upto_region 16 with fail
  go_name_world V2 hV2
  have H7 : Hid (Fz w V2 ⟨a, b, x2, x3, x4⟩ gb ⟨y1, y2, z1, z2, z3⟩ v2.heap.size ⟨0, 0, false, false, false⟩) := by rw [← hV2]; exact Fz.new H6.out ⟨0, 0, false, false, false⟩
  clear hV2 H6
  generalize v2.heap.size = gc2 at *
  obtain ⟨c0, c1, c2, c3, c4⟩ := AAr.laid (d := ⟨a, b, x2, x3, x4⟩) (H7.out.1.1.2.1)
  simp only at c0 c1 c2 c3 c4
  obtain ⟨b0, b1, b2, b3, b4⟩ := AAr.laid (d := ⟨y1, y2, z1, z2, z3⟩) (H7.out.1.2)
  simp only at b0 b1 b2 b3 b4
  obtain ⟨f0, f1, f2, f3, f4⟩ := AAr.laid (d := ⟨0, 0, false, false, false⟩) (H7.out.2)
  simp only at f0 f1 f2 f3 f4
  have H8 : Hid (Fy w V2 ⟨a, b, x2, x3, x4⟩ gb ⟨y1, y2, z1, z2, z3⟩) := H7.out.1
  clear H7
  go_wp2_with fail
  go_ret
  exact ⟨rfl, H8.out.1.1⟩
set_option maxRecDepth 100000 in
set_option maxHeartbeats 16000000 in
theorem keeps_errok_on {w : World} {ao : Option Addr} {c : Nat} {L : List AAr} (hs : Sn rAAr w ao L) (hm : L.length ≤ maxLen) (h200 : L.length ≤ 200) {a b : Int} {x2 x3 x4 : Bool} {p : Int} {n1 : Int} {M2 : List AAr} (s2 : LayS L a b (layA (ownA L) a b none) (.ok M2)) (q1 : ∀ w ao c, Sn rAAr w ao L → L.length ≤ maxLen → Calls Try.prog 20 #[.slice ao L.length c, .agg #[.int .i64 a, .int .i64 b, .bool x2, .bool x3, .bool x4]] w (TellW w (.error n1))) (q2 : ∀ w ao c, Sn rAAr w ao L → L.length ≤ maxLen → Calls Try.prog 21 #[.slice ao L.length c, .int .i64 a, .int .i64 b] w (TellW w (.ok M2))) (hin : ¬ (a ≤ p ∧ p < b)) (hown : ownA L p = none) :
    Calls Try.prog 7 #[.slice ao L.length c, .agg #[.int .i64 a, .int .i64 b, .bool x2, .bool x3, .bool x4], .int .i64 p] w fun e w' => e = .returned (.bool true) ∧ Below w.heap.size w w' := by
  have H0 : Hid (Bx1 w (w.alloc (.cells (AAr.arr ⟨a, b, x2, x3, x4⟩) 32)) ⟨a, b, x2, x3, x4⟩) := Bx1.new w ⟨a, b, x2, x3, x4⟩
  have hU := up_any (w.alloc (.cells (AAr.arr ⟨a, b, x2, x3, x4⟩) 32))
  unfold AAr.arr at H0 hU
  simp only at H0 hU
  have HS : Hid (Sn rAAr w ao L) := hs
  have HM : Hid (L.length ≤ maxLen) := hm
  have h200z : ¬ (200 : Int) < (L.length : Int) := by omega
  have hm' : L.length ≤ 9223372036854775807 := by unfold maxLen at hm; omega
  clear hs hm h200
  have hC := code3
  have hnr := nrs false false
  have hF := fun w ao c => find_none (L := L) (p := p) s2.sure.1 hown w ao c
  have ho2 : ownA M2 p = none := by rw [s2.own p, if_neg hin, hown]
  have HL2 : Hid (M2.length ≤ maxLen) := by have := s2.sure.2.2.2; unfold maxLen; show _ ≤ _; omega
  have hF2 := fun w ao c => find_none (L := M2) (p := p) (s2.sure.2.2.1.may s2.sure.2.2.2) ho2 w ao c
  clear ho2
  clear s2 hown
  obtain ⟨ib, hib⟩ : ∃ ib : Bool, ib = decide (a ≤ p ∧ p < b) := ⟨_, rfl⟩
  have HIB : Hid (ib = decide (a ≤ p ∧ p < b)) := hib
  clear hib
  have HIN : Hid _ := hin
  clear hin
  go_enter Try.func7, Try.ntmps7
  go_wp2_with fail
  refine hU.mono ?_
  rintro e w1 ⟨rfl, hb1⟩
  have H1 : Hid (Bx1 w w1 ⟨a, b, x2, x3, x4⟩) := H0.out.below hb1
  have HS1 : Hid (Sn rAAr w1 ao L) := HS.out.below H1.out.1
  clear hU hb1 H0 HS
  obtain ⟨c0, c1, c2, c3, c4⟩ := AAr.laid (d := ⟨a, b, x2, x3, x4⟩) (H1.out.2.1)
  simp only at c0 c1 c2 c3 c4
  go_wp2_with fail
  refine (q1 w1 ao c HS1.out HM.out).mono ?_
  rintro e w2 ⟨rfl, hb1⟩
  have H2 : Hid (Bx1 w w2 ⟨a, b, x2, x3, x4⟩) := H1.out.below hb1.out
  have HS2 : Hid (Sn rAAr w2 ao L) := HS1.out.below hb1.out
  clear c0 c1 c2 c3 c4 hb1 H1 HS1 q1
  obtain ⟨c0, c1, c2, c3, c4⟩ := AAr.laid (d := ⟨a, b, x2, x3, x4⟩) (H2.out.2.1)
  simp only at c0 c1 c2 c3 c4
  go_wp2_with fail
  refine (q2 w2 ao c HS2.out HM.out).mono ?_
  rintro e w3 ⟨ao2, k2, rfl, hr2, hb2⟩
  have H3 : Hid (Bx1 w w3 ⟨a, b, x2, x3, x4⟩) := H2.out.below hb2.out
  have hf := hF w3 ao c (HS2.out.below hb2.out) HM.out
  have S23 : Hid (Sn rAAr w3 ao2 M2) := hr2.out.sn
  clear hr2
  clear c0 c1 c2 c3 c4 hb2 H2 HS2 q2 hF
  go_wp2_with fail
  refine hf.mono ?_
  rintro e w4 ⟨rfl, hb3⟩
  have H4 : Hid (Bx1 w w4 ⟨a, b, x2, x3, x4⟩) := H3.out.below hb3.out
  have S24 : Hid (Sn rAAr w4 ao2 M2) := S23.out.below hb3.out
  clear S23
  clear hf hb3 H3
  go_upto_region 7 with fail
  go_name_world W4 hW4
  have H5 : Hid (Fy w W4 ⟨a, b, x2, x3, x4⟩ w4.heap.size ⟨0, 0, false, false, false⟩) := by rw [← hW4]; exact Fy.new H4.out ⟨0, 0, false, false, false⟩
  have S25 : Hid (Sn rAAr W4 ao2 M2) := by rw [← hW4]; exact S24.out.below (new_below _ _)
  clear S24
  clear hW4 H4
  generalize w4.heap.size = gb at *
  obtain ⟨c0, c1, c2, c3, c4⟩ := AAr.laid (d := ⟨a, b, x2, x3, x4⟩) (H5.out.1.2.1)
  simp only at c0 c1 c2 c3 c4
  go_cut [14] from 45 to 54 (fun s14 wx => s14 = .bool ib ∧ W4 = wx)
  case first =>
    clear H5
    by_cases h1 : a ≤ p
    · by_cases h2 : p < b
      · go_wp2_with fail
        go_meet
        exact ⟨by rw [HIB.out, decide_eq_true (by omega)], rfl⟩
      · go_wp2_with fail
        go_meet
        exact ⟨by rw [HIB.out, decide_eq_false (by omega)], rfl⟩
    · go_wp2_with fail
      go_meet
      exact ⟨by rw [HIB.out, decide_eq_false (by omega)], rfl⟩
  case rest =>
  obtain ⟨rfl, rfl⟩ := hcut
  apply_assumption
  obtain rfl : ib = false := by rw [HIB.out]; exact decide_eq_false HIN.out
  clear HIB HIN
  have hf := hF2 W4 ao2 k2 S25.out HL2.out
  clear hF2
  go_wp2_with fail
  refine hf.mono ?_
  rintro e v2 ⟨rfl, hb2⟩
  have H6 : Hid (Fy w v2 ⟨a, b, x2, x3, x4⟩ gb ⟨0, 0, false, false, false⟩) := H5.out.below hb2.out
  clear hf hb2 H5 S25 c0 c1 c2 c3 c4
  go_upto_region 16 with fail
  go_name_world V2 hV2
  have H7 : Hid (Fz w V2 ⟨a, b, x2, x3, x4⟩ gb ⟨0, 0, false, false, false⟩ v2.heap.size ⟨0, 0, false, false, false⟩) := by rw [← hV2]; exact Fz.new H6.out ⟨0, 0, false, false, false⟩
  clear hV2 H6
  generalize v2.heap.size = gc2 at *
  obtain ⟨c0, c1, c2, c3, c4⟩ := AAr.laid (d := ⟨a, b, x2, x3, x4⟩) (H7.out.1.1.2.1)
  simp only at c0 c1 c2 c3 c4
  obtain ⟨b0, b1, b2, b3, b4⟩ := AAr.laid (d := ⟨0, 0, false, false, false⟩) (H7.out.1.2)
  simp only at b0 b1 b2 b3 b4
  obtain ⟨f0, f1, f2, f3, f4⟩ := AAr.laid (d := ⟨0, 0, false, false, false⟩) (H7.out.2)
  simp only at f0 f1 f2 f3 f4
  have H8 : Hid (Fy w V2 ⟨a, b, x2, x3, x4⟩ gb ⟨0, 0, false, false, false⟩) := H7.out.1
  clear H7
  go_wp2_with (go_at_call 27; refine (hC _).mono ?_; rintro e w9 ⟨rfl, hw⟩; obtain rfl := hw.symm; clear hw)
  go_ret
  exact ⟨rfl, H8.out.1.1⟩
set_option maxRecDepth 100000 in
set_option maxHeartbeats 16000000 in
theorem keeps_errok_os {w : World} {ao : Option Addr} {c : Nat} {L : List AAr} (hs : Sn rAAr w ao L) (hm : L.length ≤ maxLen) (h200 : L.length ≤ 200) {a b : Int} {x2 x3 x4 : Bool} {p : Int} {n1 : Int} {M2 : List AAr} (s2 : LayS L a b (layA (ownA L) a b none) (.ok M2)) (q1 : ∀ w ao c, Sn rAAr w ao L → L.length ≤ maxLen → Calls Try.prog 20 #[.slice ao L.length c, .agg #[.int .i64 a, .int .i64 b, .bool x2, .bool x3, .bool x4]] w (TellW w (.error n1))) (q2 : ∀ w ao c, Sn rAAr w ao L → L.length ≤ maxLen → Calls Try.prog 21 #[.slice ao L.length c, .int .i64 a, .int .i64 b] w (TellW w (.ok M2))) (hin : ¬ (a ≤ p ∧ p < b)) {t1 t2 t3 : Bool} (hown : ownA L p = some (t1, t2, t3)) :
    Calls Try.prog 7 #[.slice ao L.length c, .agg #[.int .i64 a, .int .i64 b, .bool x2, .bool x3, .bool x4], .int .i64 p] w fun e w' => e = .returned (.bool true) ∧ Below w.heap.size w w' := by
  have H0 : Hid (Bx1 w (w.alloc (.cells (AAr.arr ⟨a, b, x2, x3, x4⟩) 32)) ⟨a, b, x2, x3, x4⟩) := Bx1.new w ⟨a, b, x2, x3, x4⟩
  have hU := up_any (w.alloc (.cells (AAr.arr ⟨a, b, x2, x3, x4⟩) 32))
  unfold AAr.arr at H0 hU
  simp only at H0 hU
  have HS : Hid (Sn rAAr w ao L) := hs
  have HM : Hid (L.length ≤ maxLen) := hm
  have h200z : ¬ (200 : Int) < (L.length : Int) := by omega
  have hm' : L.length ≤ 9223372036854775807 := by unfold maxLen at hm; omega
  clear hs hm h200
  have hC := code_nil
  have hnr := nrs t1 t2
  have hF := fun w ao c => find_some (L := L) (p := p) s2.sure.1 hown w ao c
  have ho2 : ownA M2 p = some (t1, t2, t3) := by rw [s2.own p, if_neg hin, hown]
  have HL2 : Hid (M2.length ≤ maxLen) := by have := s2.sure.2.2.2; unfold maxLen; show _ ≤ _; omega
  have hF2 := fun w ao c => find_some (L := M2) (p := p) (s2.sure.2.2.1.may s2.sure.2.2.2) ho2 w ao c
  clear ho2
  simp only at hF2
  simp only at hF
  clear s2 hown
  obtain ⟨ib, hib⟩ : ∃ ib : Bool, ib = decide (a ≤ p ∧ p < b) := ⟨_, rfl⟩
  have HIB : Hid (ib = decide (a ≤ p ∧ p < b)) := hib
  clear hib
  have HIN : Hid _ := hin
  clear hin
  go_enter Try.func7, Try.ntmps7
  go_wp2_with fail
  refine hU.mono ?_
  rintro e w1 ⟨rfl, hb1⟩
  have H1 : Hid (Bx1 w w1 ⟨a, b, x2, x3, x4⟩) := H0.out.below hb1
  have HS1 : Hid (Sn rAAr w1 ao L) := HS.out.below H1.out.1
  clear hU hb1 H0 HS
  obtain ⟨c0, c1, c2, c3, c4⟩ := AAr.laid (d := ⟨a, b, x2, x3, x4⟩) (H1.out.2.1)
  simp only at c0 c1 c2 c3 c4
  go_wp2_with fail
  refine (q1 w1 ao c HS1.out HM.out).mono ?_
  rintro e w2 ⟨rfl, hb1⟩
  have H2 : Hid (Bx1 w w2 ⟨a, b, x2, x3, x4⟩) := H1.out.below hb1.out
  have HS2 : Hid (Sn rAAr w2 ao L) := HS1.out.below hb1.out
  clear c0 c1 c2 c3 c4 hb1 H1 HS1 q1
  obtain ⟨c0, c1, c2, c3, c4⟩ := AAr.laid (d := ⟨a, b, x2, x3, x4⟩) (H2.out.2.1)
  simp only at c0 c1 c2 c3 c4
  go_wp2_with fail
  refine (q2 w2 ao c HS2.out HM.out).mono ?_
  rintro e w3 ⟨ao2, k2, rfl, hr2, hb2⟩
  have H3 : Hid (Bx1 w w3 ⟨a, b, x2, x3, x4⟩) := H2.out.below hb2.out
  have hf := hF w3 ao c (HS2.out.below hb2.out) HM.out
  have S23 : Hid (Sn rAAr w3 ao2 M2) := hr2.out.sn
  clear hr2
  clear c0 c1 c2 c3 c4 hb2 H2 HS2 q2 hF
  go_wp2_with fail
  refine hf.mono ?_
  rintro e w4 ⟨y1, y2, rfl, -, hb3⟩
  have H4 : Hid (Bx1 w w4 ⟨a, b, x2, x3, x4⟩) := H3.out.below hb3.out
  have S24 : Hid (Sn rAAr w4 ao2 M2) := S23.out.below hb3.out
  clear S23
  clear hf hb3 H3
  go_upto_region 7 with fail
  go_name_world W4 hW4
  have H5 : Hid (Fy w W4 ⟨a, b, x2, x3, x4⟩ w4.heap.size ⟨y1, y2, t1, t2, t3⟩) := by rw [← hW4]; exact Fy.new H4.out ⟨y1, y2, t1, t2, t3⟩
  have S25 : Hid (Sn rAAr W4 ao2 M2) := by rw [← hW4]; exact S24.out.below (new_below _ _)
  clear S24
  clear hW4 H4
  generalize w4.heap.size = gb at *
  obtain ⟨c0, c1, c2, c3, c4⟩ := AAr.laid (d := ⟨a, b, x2, x3, x4⟩) (H5.out.1.2.1)
  simp only at c0 c1 c2 c3 c4
  go_cut [14] from 45 to 54 (fun s14 wx => s14 = .bool ib ∧ W4 = wx)
  case first =>
    clear H5
    by_cases h1 : a ≤ p
    · by_cases h2 : p < b
      · go_wp2_with fail
        go_meet
        exact ⟨by rw [HIB.out, decide_eq_true (by omega)], rfl⟩
      · go_wp2_with fail
        go_meet
        exact ⟨by rw [HIB.out, decide_eq_false (by omega)], rfl⟩
    · go_wp2_with fail
      go_meet
      exact ⟨by rw [HIB.out, decide_eq_false (by omega)], rfl⟩
  case rest =>
  obtain ⟨rfl, rfl⟩ := hcut
  apply_assumption
  obtain rfl : ib = false := by rw [HIB.out]; exact decide_eq_false HIN.out
  clear HIB HIN
  have hf := hF2 W4 ao2 k2 S25.out HL2.out
  clear hF2
  go_wp2_with fail
  refine hf.mono ?_
  rintro e v2 ⟨e12, e22, rfl, -, hb2⟩
  have H6 : Hid (Fy w v2 ⟨a, b, x2, x3, x4⟩ gb ⟨y1, y2, t1, t2, t3⟩) := H5.out.below hb2.out
  clear hf hb2 H5 S25 c0 c1 c2 c3 c4
  go_upto_region 16 with fail
  go_name_world V2 hV2
  have H7 : Hid (Fz w V2 ⟨a, b, x2, x3, x4⟩ gb ⟨y1, y2, t1, t2, t3⟩ v2.heap.size ⟨e12, e22, t1, t2, t3⟩) := by rw [← hV2]; exact Fz.new H6.out ⟨e12, e22, t1, t2, t3⟩
  clear hV2 H6
  generalize v2.heap.size = gc2 at *
  obtain ⟨c0, c1, c2, c3, c4⟩ := AAr.laid (d := ⟨a, b, x2, x3, x4⟩) (H7.out.1.1.2.1)
  simp only at c0 c1 c2 c3 c4
  obtain ⟨b0, b1, b2, b3, b4⟩ := AAr.laid (d := ⟨y1, y2, t1, t2, t3⟩) (H7.out.1.2)
  simp only at b0 b1 b2 b3 b4
  obtain ⟨f0, f1, f2, f3, f4⟩ := AAr.laid (d := ⟨e12, e22, t1, t2, t3⟩) (H7.out.2)
  simp only at f0 f1 f2 f3 f4
  have H8 : Hid (Fy w V2 ⟨a, b, x2, x3, x4⟩ gb ⟨y1, y2, t1, t2, t3⟩) := H7.out.1
  clear H7
  go_wp2_with (go_at_call 27; refine (hC _).mono ?_; rintro e w9 ⟨rfl, hw⟩; obtain rfl := hw.symm; clear hw)
  go_ret
  exact ⟨rfl, H8.out.1.1⟩
set_option maxRecDepth 100000 in
set_option maxHeartbeats 16000000 in
theorem keeps_errerr {w : World} {ao : Option Addr} {c : Nat} {L : List AAr} (hs : Sn rAAr w ao L) (hm : L.length ≤ maxLen) (h200 : L.length ≤ 200) {a b : Int} {x2 x3 x4 : Bool} {p : Int} {n1 : Int} {n2 : Int} (q1 : ∀ w ao c, Sn rAAr w ao L → L.length ≤ maxLen → Calls Try.prog 20 #[.slice ao L.length c, .agg #[.int .i64 a, .int .i64 b, .bool x2, .bool x3, .bool x4]] w (TellW w (.error n1))) (q2 : ∀ w ao c, Sn rAAr w ao L → L.length ≤ maxLen → Calls Try.prog 21 #[.slice ao L.length c, .int .i64 a, .int .i64 b] w (TellW w (.error n2))) :
    Calls Try.prog 7 #[.slice ao L.length c, .agg #[.int .i64 a, .int .i64 b, .bool x2, .bool x3, .bool x4], .int .i64 p] w fun e w' => e = .returned (.bool true) ∧ Below w.heap.size w w' := by
  have H0 : Hid (Bx1 w (w.alloc (.cells (AAr.arr ⟨a, b, x2, x3, x4⟩) 32)) ⟨a, b, x2, x3, x4⟩) := Bx1.new w ⟨a, b, x2, x3, x4⟩
  have hU := up_any (w.alloc (.cells (AAr.arr ⟨a, b, x2, x3, x4⟩) 32))
  unfold AAr.arr at H0 hU
  simp only at H0 hU
  have HS : Hid (Sn rAAr w ao L) := hs
  have HM : Hid (L.length ≤ maxLen) := hm
  have h200z : ¬ (200 : Int) < (L.length : Int) := by omega
  have hm' : L.length ≤ 9223372036854775807 := by unfold maxLen at hm; omega
  clear hs hm h200
  have hF := fun w ao c => find_gen (L := L) (p := p) w ao c
  obtain ⟨ib, hib⟩ : ∃ ib : Bool, ib = decide (a ≤ p ∧ p < b) := ⟨_, rfl⟩
  have HIB : Hid (ib = decide (a ≤ p ∧ p < b)) := hib
  clear hib
  go_enter Try.func7, Try.ntmps7
  go_wp2_with fail
  refine hU.mono ?_
  rintro e w1 ⟨rfl, hb1⟩
  have H1 : Hid (Bx1 w w1 ⟨a, b, x2, x3, x4⟩) := H0.out.below hb1
  have HS1 : Hid (Sn rAAr w1 ao L) := HS.out.below H1.out.1
  clear hU hb1 H0 HS
  obtain ⟨c0, c1, c2, c3, c4⟩ := AAr.laid (d := ⟨a, b, x2, x3, x4⟩) (H1.out.2.1)
  simp only at c0 c1 c2 c3 c4
  go_wp2_with fail
  refine (q1 w1 ao c HS1.out HM.out).mono ?_
  rintro e w2 ⟨rfl, hb1⟩
  have H2 : Hid (Bx1 w w2 ⟨a, b, x2, x3, x4⟩) := H1.out.below hb1.out
  have HS2 : Hid (Sn rAAr w2 ao L) := HS1.out.below hb1.out
  clear c0 c1 c2 c3 c4 hb1 H1 HS1 q1
  obtain ⟨c0, c1, c2, c3, c4⟩ := AAr.laid (d := ⟨a, b, x2, x3, x4⟩) (H2.out.2.1)
  simp only at c0 c1 c2 c3 c4
  go_wp2_with fail
  refine (q2 w2 ao c HS2.out HM.out).mono ?_
  rintro e w3 ⟨rfl, hb2⟩
  have H3 : Hid (Bx1 w w3 ⟨a, b, x2, x3, x4⟩) := H2.out.below hb2.out
  have hf := hF w3 ao c (HS2.out.below hb2.out) HM.out
  clear c0 c1 c2 c3 c4 hb2 H2 HS2 q2 hF
  go_wp2_with fail
  refine hf.mono ?_
  rintro e w4 ⟨y1, y2, z1, z2, z3, u, rfl, hb3⟩
  have H4 : Hid (Bx1 w w4 ⟨a, b, x2, x3, x4⟩) := H3.out.below hb3.out
  clear hf hb3 H3
  go_upto_region 7 with fail
  go_name_world W4 hW4
  have H5 : Hid (Fy w W4 ⟨a, b, x2, x3, x4⟩ w4.heap.size ⟨y1, y2, z1, z2, z3⟩) := by rw [← hW4]; exact Fy.new H4.out ⟨y1, y2, z1, z2, z3⟩
  clear hW4 H4
  generalize w4.heap.size = gb at *
  obtain ⟨c0, c1, c2, c3, c4⟩ := AAr.laid (d := ⟨a, b, x2, x3, x4⟩) (H5.out.1.2.1)
  simp only at c0 c1 c2 c3 c4
  go_cut [14] from 45 to 54 (fun s14 wx => s14 = .bool ib ∧ W4 = wx)
  case first =>
    clear H5
    by_cases h1 : a ≤ p
    · by_cases h2 : p < b
      · go_wp2_with fail
        go_meet
        exact ⟨by rw [HIB.out, decide_eq_true (by omega)], rfl⟩
      · go_wp2_with fail
        go_meet
        exact ⟨by rw [HIB.out, decide_eq_false (by omega)], rfl⟩
    · go_wp2_with fail
      go_meet
      exact ⟨by rw [HIB.out, decide_eq_false (by omega)], rfl⟩
  case rest =>
  obtain ⟨rfl, rfl⟩ := hcut
  apply_assumption
  go_wp2_with fail
  go_ret
  exact ⟨rfl, H5.out.1.1⟩
theorem keeps_any {w : World} {ao : Option Addr} {c : Nat} {L : List AAr} (hs : Sn rAAr w ao L) (hm : L.length ≤ maxLen) (dd : AAr) (p : Int) :
    Calls Try.prog 7 #[.slice ao L.length c, av dd, .int .i64 p] w fun e w' => e = .returned (.bool true) ∧ Below w.heap.size w w' := by
  obtain ⟨r1, s1, q1⟩ := lay_tell L dd
  obtain ⟨r2, s2, q2⟩ := cut_tell L dd.a dd.b
  obtain ⟨a, b, x2, x3, x4⟩ := dd
  unfold av at *
  simp only [AAr.pg] at *
  by_cases h200 : L.length ≤ 200
  · cases r1 with
    | ok M1 =>
      cases r2 with
      | ok M2 =>
        by_cases hin : a ≤ p ∧ p < b
        · exact keeps_okok_in hs hm h200 s1 s2 q1 q2 hin
        · cases ho : ownA L p with
          | none => exact keeps_okok_on hs hm h200 s1 s2 q1 q2 hin ho
          | some t => exact keeps_okok_os (t1 := t.1) (t2 := t.2.1) (t3 := t.2.2) hs hm h200 s1 s2 q1 q2 hin ho
      | error n2 =>
        by_cases hin : a ≤ p ∧ p < b
        · exact keeps_okerr_in hs hm h200 s1 q1 q2 hin
        · cases ho : ownA L p with
          | none => exact keeps_okerr_on hs hm h200 s1 q1 q2 hin ho
          | some t => exact keeps_okerr_os (t1 := t.1) (t2 := t.2.1) (t3 := t.2.2) hs hm h200 s1 q1 q2 hin ho
    | error n1 =>
      cases r2 with
      | ok M2 =>
        by_cases hin : a ≤ p ∧ p < b
        · exact keeps_errok_in hs hm h200 s2 q1 q2 hin
        · cases ho : ownA L p with
          | none => exact keeps_errok_on hs hm h200 s2 q1 q2 hin ho
          | some t => exact keeps_errok_os (t1 := t.1) (t2 := t.2.1) (t3 := t.2.2) hs hm h200 s2 q1 q2 hin ho
      | error n2 => exact keeps_errerr hs hm h200 q1 q2
  · have h200z : (200 : Int) < (L.length : Int) := by omega
    have hm' : L.length ≤ 9223372036854775807 := by unfold maxLen at hm; omega
    have H0 : Hid (Bx1 w (w.alloc (.cells (AAr.arr ⟨a, b, x2, x3, x4⟩) 32)) ⟨a, b, x2, x3, x4⟩) := Bx1.new w _
    have hU := up_any (w.alloc (.cells (AAr.arr ⟨a, b, x2, x3, x4⟩) 32))
    unfold AAr.arr at H0 hU
    simp only at H0 hU
    clear hs hm s1 s2 q1 q2
    go_enter Try.func7, Try.ntmps7
    go_wp2_with fail
    refine hU.mono ?_
    rintro e w1 ⟨rfl, hb1⟩
    have H1 : Hid (Bx1 w w1 ⟨a, b, x2, x3, x4⟩) := H0.out.below hb1
    clear hU hb1 H0
    go_wp2
    go_ret
    exact ⟨rfl, H1.out.1⟩
theorem walk_areaKeeps (ao : Option Addr) (len cap : Nat) (D : Nat → AAr) (d : AAr) (p : Int) (w : World) (hm : len ≤ maxLen) (hL : Lst AAr.cells AAr.ok 5 w ao len D) (_ : d.ok) (_ : -9223372036854775808 ≤ p ∧ p ≤ 9223372036854775807) :
    Calls Try.prog 7 #[.slice ao len cap, .agg d.cells.toArray, .int .i64 p] w fun e w' => e = .returned (.bool true) ∧ Below w.heap.size w w' := by
  have h := keeps_any (c := cap) hL.sn (by rw [lstN]; exact hm) d p
  rwa [lstN] at h
end Go.Proofs.Ytaeodbeodacmaaa
