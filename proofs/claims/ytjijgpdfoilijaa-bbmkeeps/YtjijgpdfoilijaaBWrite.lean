/- (*Watch).Write. -/
import Derived.Test.YtjijgpdfoilijaaBClose
import Derived.Deep.RegionHeld3
namespace Go.Proofs.Ytjijgpdfoilijaa
open Go.RowKit

def RPost (F : Nat → Prop) (w : World) (b m : Nat) (br : Bool) (l : Gaps) (e : Ending) (w' : World) : Prop := e = .returned .nilIface ∧ Wat F w' b m br l ∧ Keeps w w' F
section
variable {F : Nat → Prop} {w : World} {b m : Nat} {br : Bool} {l : Gaps}
set_option maxHeartbeats 2000000 in
theorem write_tt (h : Wat F w b m br l) (a lvl t p f : Int) (old new : Nat) (hold : old < 18446744073709551616) (hnew : new < 18446744073709551616) (hm : mayW a lvl t p f = true) (v1 : validB old = true) (v2 : validB new = true) (hc : changeB lvl old new = true) :
    Calls Try.prog 9 #[.pointer (some ⟨b, 0, none⟩), .int .i64 a, .int .i64 lvl, .int .i64 t, .int .i64 p, .int .i64 f, .int .u64 old, .int .u64 new] w (RPost F w b m br l) := by
  obtain ⟨hp, hl, hlv, a0, a1, t0, t1, p0, p1, f0, f1⟩ := mayW_true hm
  have hch := fun w => change_yes lvl old new w hold hnew hlv
  have hvo := fun w => isValid_any old w hold
  have hvn := fun w => isValid_any new w hnew
  have HW : Hid (Wat F w b m br l) := h
  rw [hc] at hch
  rw [v1] at hvo
  rw [v2] at hvn
  clear h hm hc hold hnew a0 a1 t0 t1 p0 p1 f0 f1 v1 v2
  go_enter Try.func9, Try.ntmps9
  go_wp2_with (first | (go_at_call 20; refine (mayPlace_any _ _ _).mono ?_; rintro e w1 ⟨rfl, hw⟩; obtain rfl := hw.symm; clear hw) | (go_at_call 21; refine (mayLead_any _ _ _ _).mono ?_; rintro e w1 ⟨rfl, hw⟩; obtain rfl := hw.symm; clear hw))
  refine (hch _).mono ?_
  rintro e w1 ⟨rfl, hb1⟩
  have W1 := HW.out.below hb1
  have K1 : Keeps w w1 F := Keeps.of_below hb1 F
  have hz1 := hb1.size
  obtain ⟨c0, c1, z1⟩ := W1.cells
  have hbz := W1.box.lt
  have HW1 : Hid (Wat F w1 b m br l) := W1
  have HK1 : Hid (Keeps w w1 F) := K1
  clear hb1 hch HW W1 K1
  go_wp2_with (first | (go_at_call 23; first | (refine (hvo _).mono ?_; rintro e w5 ⟨rfl, hw⟩; obtain rfl := hw.symm; clear hw) | (refine (hvn _).mono ?_; rintro e w5 ⟨rfl, hw⟩; obtain rfl := hw.symm; clear hw)))
  go_ret
  exact ⟨rfl, HW1.out.below ((Below.refl _ _).alloc (Nat.le_refl _) _), HK1.out.trans (Keeps.of_below ((Below.refl _ _).alloc (Nat.le_refl _) _) F) fun _ _ e => e⟩
set_option maxHeartbeats 2000000 in
theorem write_tf (h : Wat F w b m br l) (a lvl t p f : Int) (old new : Nat) (hold : old < 18446744073709551616) (hnew : new < 18446744073709551616) (hm : mayW a lvl t p f = true) (v1 : validB old = true) (v2 : validB new = true) (hc : changeB lvl old new = false) :
    Calls Try.prog 9 #[.pointer (some ⟨b, 0, none⟩), .int .i64 a, .int .i64 lvl, .int .i64 t, .int .i64 p, .int .i64 f, .int .u64 old, .int .u64 new] w (RPost F w b m true l) := by
  obtain ⟨hp, hl, hlv, a0, a1, t0, t1, p0, p1, f0, f1⟩ := mayW_true hm
  have hch := fun w => change_yes lvl old new w hold hnew hlv
  have hvo := fun w => isValid_any old w hold
  have hvn := fun w => isValid_any new w hnew
  have HW : Hid (Wat F w b m br l) := h
  rw [hc] at hch
  rw [v1] at hvo
  rw [v2] at hvn
  clear h hm hc hold hnew a0 a1 t0 t1 p0 p1 f0 f1 v1 v2
  go_enter Try.func9, Try.ntmps9
  go_wp2_with (first | (go_at_call 20; refine (mayPlace_any _ _ _).mono ?_; rintro e w1 ⟨rfl, hw⟩; obtain rfl := hw.symm; clear hw) | (go_at_call 21; refine (mayLead_any _ _ _ _).mono ?_; rintro e w1 ⟨rfl, hw⟩; obtain rfl := hw.symm; clear hw))
  refine (hch _).mono ?_
  rintro e w1 ⟨rfl, hb1⟩
  have W1 := HW.out.below hb1
  have K1 : Keeps w w1 F := Keeps.of_below hb1 F
  have hz1 := hb1.size
  obtain ⟨c0, c1, z1⟩ := W1.cells
  have hbz := W1.box.lt
  have HW1 : Hid (Wat F w1 b m br l) := W1
  have HK1 : Hid (Keeps w w1 F) := K1
  clear hb1 hch HW W1 K1
  go_wp2_with (first | (go_at_call 23; first | (refine (hvo _).mono ?_; rintro e w5 ⟨rfl, hw⟩; obtain rfl := hw.symm; clear hw) | (refine (hvn _).mono ?_; rintro e w5 ⟨rfl, hw⟩; obtain rfl := hw.symm; clear hw)))
  go_ret
  have W2 := HW1.out.broke true
  have K2 : Keeps w (w1.setCell ⟨b, 1, none⟩ (.bool true)) F := HK1.out.trans (Keeps.set _ _ _ _) fun c _ e => by rw [e]; exact HW1.out.fb
  exact ⟨rfl, W2.below ((Below.refl _ _).alloc (Nat.le_refl _) _), K2.trans (Keeps.of_below ((Below.refl _ _).alloc (Nat.le_refl _) _) F) fun _ _ e => e⟩
set_option maxHeartbeats 2000000 in
theorem write_ff (h : Wat F w b m br l) (a lvl t p f : Int) (old new : Nat) (hold : old < 18446744073709551616) (hnew : new < 18446744073709551616) (hm : mayW a lvl t p f = true) (v1 : validB old = false) (v2 : validB new = false) (hc : changeB lvl old new = true) :
    Calls Try.prog 9 #[.pointer (some ⟨b, 0, none⟩), .int .i64 a, .int .i64 lvl, .int .i64 t, .int .i64 p, .int .i64 f, .int .u64 old, .int .u64 new] w (RPost F w b m br l) := by
  obtain ⟨hp, hl, hlv, a0, a1, t0, t1, p0, p1, f0, f1⟩ := mayW_true hm
  have hch := fun w => change_yes lvl old new w hold hnew hlv
  have hvo := fun w => isValid_any old w hold
  have hvn := fun w => isValid_any new w hnew
  have HW : Hid (Wat F w b m br l) := h
  rw [hc] at hch
  rw [v1] at hvo
  rw [v2] at hvn
  clear h hm hc hold hnew a0 a1 t0 t1 p0 p1 f0 f1 v1 v2
  go_enter Try.func9, Try.ntmps9
  go_wp2_with (first | (go_at_call 20; refine (mayPlace_any _ _ _).mono ?_; rintro e w1 ⟨rfl, hw⟩; obtain rfl := hw.symm; clear hw) | (go_at_call 21; refine (mayLead_any _ _ _ _).mono ?_; rintro e w1 ⟨rfl, hw⟩; obtain rfl := hw.symm; clear hw))
  refine (hch _).mono ?_
  rintro e w1 ⟨rfl, hb1⟩
  have W1 := HW.out.below hb1
  have K1 : Keeps w w1 F := Keeps.of_below hb1 F
  have hz1 := hb1.size
  obtain ⟨c0, c1, z1⟩ := W1.cells
  have hbz := W1.box.lt
  have HW1 : Hid (Wat F w1 b m br l) := W1
  have HK1 : Hid (Keeps w w1 F) := K1
  clear hb1 hch HW W1 K1
  go_wp2_with (first | (go_at_call 23; first | (refine (hvo _).mono ?_; rintro e w5 ⟨rfl, hw⟩; obtain rfl := hw.symm; clear hw) | (refine (hvn _).mono ?_; rintro e w5 ⟨rfl, hw⟩; obtain rfl := hw.symm; clear hw)))
  go_ret
  exact ⟨rfl, HW1.out.below ((Below.refl _ _).alloc (Nat.le_refl _) _), HK1.out.trans (Keeps.of_below ((Below.refl _ _).alloc (Nat.le_refl _) _) F) fun _ _ e => e⟩
set_option maxHeartbeats 2000000 in
theorem write_close (h : Wat F w b m br l) (a lvl t p f : Int) (old new : Nat) (hold : old < 18446744073709551616) (hnew : new < 18446744073709551616) (hm : mayW a lvl t p f = true) (v1 : validB old = false) (v2 : validB new = true) :
    Calls Try.prog 9 #[.pointer (some ⟨b, 0, none⟩), .int .i64 a, .int .i64 lvl, .int .i64 t, .int .i64 p, .int .i64 f, .int .u64 old, .int .u64 new] w (RPost F w b m (br || clashB l (t, p) lvl new) (delL l (t, p))) := by
  obtain ⟨hp, hl, hlv, a0, a1, t0, t1, p0, p1, f0, f1⟩ := mayW_true hm
  have hch := fun w => change_yes lvl old new w hold hnew hlv
  have hvo := fun w => isValid_any old w hold
  have hvn := fun w => isValid_any new w hnew
  have HW : Hid (Wat F w b m br l) := h
  have hc : changeB lvl old new = true := by
    have : old % 2 = 0 := by simp only [validB, decide_eq_false_iff_not] at v1; omega
    simp [changeB, plainB, this]
  rw [hc] at hch
  rw [v1] at hvo
  rw [v2] at hvn
  have hcl := fun (W : World) (hW : Wat F W b m br l) => close_any hW (t, p) ⟨⟨by omega, by omega⟩, by omega, by omega⟩ lvl hlv new hnew
  simp only [slotV] at hcl
  have HC : Hid _ := hcl
  clear h hm hc hold hnew a0 a1 t0 t1 p0 p1 f0 f1 v1 v2 hcl
  go_enter Try.func9, Try.ntmps9
  go_wp2_with (first | (go_at_call 20; refine (mayPlace_any _ _ _).mono ?_; rintro e w1 ⟨rfl, hw⟩; obtain rfl := hw.symm; clear hw) | (go_at_call 21; refine (mayLead_any _ _ _ _).mono ?_; rintro e w1 ⟨rfl, hw⟩; obtain rfl := hw.symm; clear hw))
  refine (hch _).mono ?_
  rintro e w1 ⟨rfl, hb1⟩
  have W1 := HW.out.below hb1
  have K1 : Keeps w w1 F := Keeps.of_below hb1 F
  have hz1 := hb1.size
  obtain ⟨c0, c1, z1⟩ := W1.cells
  have hbz := W1.box.lt
  have HW1 : Hid (Wat F w1 b m br l) := W1
  have HK1 : Hid (Keeps w w1 F) := K1
  clear hb1 hch HW W1 K1
  go_wp2_with (first | (go_at_call 23; first | (refine (hvo _).mono ?_; rintro e w5 ⟨rfl, hw⟩; obtain rfl := hw.symm; clear hw) | (refine (hvn _).mono ?_; rintro e w5 ⟨rfl, hw⟩; obtain rfl := hw.symm; clear hw)))
  refine (HC.out _ (HW1.out.below ((Below.refl _ _).alloc (Nat.le_refl _) _))).mono ?_
  rintro e w2 ⟨rfl, hw2, hk2⟩
  have HF : Hid (RPost F w b m (br || clashB l (t, p) lvl new) (delL l (t, p)) (.returned .nilIface) w2) := ⟨rfl, hw2, (HK1.out.trans (Keeps.of_below ((Below.refl _ _).alloc (Nat.le_refl _) _) F) fun _ _ e => e).trans hk2 fun _ _ e => e⟩
  clear hw2 hk2 HC HW1 HK1 c0 c1 z1
  go_wp2
  go_ret
  exact HF.out
end
end Go.Proofs.Ytjijgpdfoilijaa
