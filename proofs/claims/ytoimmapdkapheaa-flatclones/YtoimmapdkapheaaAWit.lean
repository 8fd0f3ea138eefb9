/- What of a list lies within; whether it covers. -/
import Derived.Test.YtoimmapdkapheaaASpan
import Derived.Test.YtoimmapdkapheaaARoom
namespace Go.Proofs.Ytoimmapdkapheaa
set_option maxRecDepth 4000
open Go.RowKit

theorem getD_take1 (L : List AAr) {k : Nat} (h : k < L.length) (f t : Int) : clipA f t (L.take (k + 1)) = clipA f t (L.take k) ++ clip1 f t (L.getD k AAr.zero) := by
  rw [take_one L h AAr.zero, clip_snoc]
theorem AAr.new2 (w : World) (o : Obj) (d : AAr) : At rAAr ((w.alloc o).alloc (.cells d.arr 55)) (w.heap.size + 1) 0 d := by
  have h := At.new (R := rAAr) (w.alloc o) d (.cells d.arr 55) rfl
  rwa [show (w.alloc o).heap.size = w.heap.size + 1 by simp] at h
set_option maxRecDepth 100000 in
set_option maxHeartbeats 4000000 in
theorem within_any {w : World} {ao : Option Addr} {c : Nat} {L : List AAr} (hs : Sn rAAr w ao L) (hm : L.length ≤ 1000) (f t : Int) :
    Calls Try.prog 69 #[.slice ao L.length c, .int .i64 f, .int .i64 t] w fun e w' => ∃ v, e = .returned v ∧ Row rAAr w.heap.size w' v (clipA f t L) ∧ Below w.heap.size w w' := by
  have HS : Hid (Sn rAAr w ao L) := hs
  clear hs
  go_enter Try.func69, Try.ntmps69
  go_wp2
  go_loopw [7, 12] (fun vv iv W => ∃ k : Nat, k ≤ L.length ∧ iv = .int .i64 k ∧ Hid (Row rAAr w.heap.size W vv (clipA f t (L.take k))) ∧ Hid (Below w.heap.size w W)) (fun _ iv _ => L.length - (intOf iv).toNat)
  case atStart => exact ⟨0, Nat.zero_le _, rfl, Row.nil _ _ _, Below.refl _ _⟩
  case round =>
    obtain ⟨k, hk, rfl, HV, HB⟩ := hrel
    by_cases hlt : k < L.length
    · have hltz : (k : Int) < (L.length : Int) := by omega
      obtain ⟨g, off, rfl, hg, c0, c1, c2, c3, c4⟩ := AAr.sn (HS.out.below HB.out) hlt
      have hcl := getD_take1 L hlt f t
      have hcn := clip_len f t (L.take k)
      have hcn2 : (L.take k).length ≤ 1000 := by rw [List.length_take]; omega
      generalize L.getD k AAr.zero = d at *
      obtain ⟨da, db, dw, dx, dh⟩ := d
      simp only at *
      have HC : Hid (clipA f t (L.take (k + 1)) = clipA f t (L.take k) ++ clip1 f t ⟨da, db, dw, dx, dh⟩) := hcl
      have HCN : Hid ((clipA f t (L.take k)).length ≤ 1000) := Nat.le_trans hcn hcn2
      clear hcl hcn hcn2
      by_cases h1 : f ≤ da
      · by_cases h2 : db ≤ t
        · have HC2 : Hid (clipA f t (L.take (k + 1)) = clipA f t (L.take k) ++ if da < db then [⟨da, db, dw, dx, dh⟩] else []) := by
            have := HC.out
            unfold clip1 at this
            rw [show max da f = da by omega, show min db t = db by omega] at this
            exact this
          clear HC
          by_cases t1 : da < db
          · have HC3 : Hid (clipA f t (L.take (k + 1)) = clipA f t (L.take k) ++ [⟨da, db, dw, dx, dh⟩]) := by
              have := HC2.out
              rwa [if_pos t1] at this
            clear HC2
            generalize clipA f t (L.take k) = PL at *
            have HVV : Hid (∀ o1 o2, Row rAAr w.heap.size ((wr.alloc o1).alloc o2) u7 PL) := fun o1 o2 => (HV.out.below ((Below.refl _ _).alloc (Nat.le_refl _) o1)).below ((Below.refl _ _).alloc (Nat.le_refl _) o2)
            have HSZ : Hid (w.heap.size ≤ wr.heap.size) := HB.out.size
            go_wp2_with (at_builtin; refine list_app AAr.kin rfl _ _ rfl w.heap.size _ PL [⟨da, db, dw, dx, dh⟩] rfl (HVV.out _ _) (some ⟨wr.heap.size + 1, 0, none⟩) 1 1 rfl rfl ?a2 ?a3 ?a4 ?a5 ?_)
            case a2 => exact Seen.one (by simp) (AAr.new2 _ _ ⟨da, db, dw, dx, dh⟩) 1
            case a3 => have := HCN.out; show PL.length + 1 ≤ maxLen; unfold maxLen; omega
            case a4 => have := HCN.out; show (PL.length + 1) * 24 ≤ 140737488355328; omega
            case a5 => have := HSZ.out; simp; omega
            intro v' w2 hrow hgrow
            have HR2 : Hid (Row rAAr w.heap.size w2 v' (PL ++ [⟨da, db, dw, dx, dh⟩])) := hrow
            have HB2 : Hid (Below w.heap.size w w2) := ((HB.out.alloc HSZ.out _).alloc (by have := HSZ.out; simp; omega) _).grown hgrow (by have := HSZ.out; simp; omega) (fun k hk => (HV.out.lt k hk).1)
            clear hrow hgrow HV HB HVV HSZ
            go_wp2
            go_roundw
            case rel => exact ⟨k + 1, by omega, by go_num, by rw [HC3.out]; exact HR2, HB2⟩
            case measure => simp only [intOf]; omega
          · have HC3 : Hid (clipA f t (L.take (k + 1)) = clipA f t (L.take k)) := by
              have := HC2.out
              rwa [if_neg t1, List.append_nil] at this
            clear HC2
            have HVV : Hid (∀ o1, Row rAAr w.heap.size (wr.alloc o1) u7 (clipA f t (L.take (k + 1)))) := fun o1 => by rw [HC3.out]; exact HV.out.below ((Below.refl _ _).alloc (Nat.le_refl _) o1)
            have HBA : Hid (∀ o1, Below w.heap.size w (wr.alloc o1)) := fun o1 => HB.out.alloc HB.out.size o1
            clear HV HB HC3
            go_wp2
            go_roundw
            case rel => exact ⟨k + 1, by omega, by go_num, HVV.out _, HBA.out _⟩
            case measure => simp only [intOf]; omega
        · have HC2 : Hid (clipA f t (L.take (k + 1)) = clipA f t (L.take k) ++ if da < t then [⟨da, t, dw, dx, dh⟩] else []) := by
            have := HC.out
            unfold clip1 at this
            rw [show max da f = da by omega, show min db t = t by omega] at this
            exact this
          clear HC
          by_cases t1 : da < t
          · have HC3 : Hid (clipA f t (L.take (k + 1)) = clipA f t (L.take k) ++ [⟨da, t, dw, dx, dh⟩]) := by
              have := HC2.out
              rwa [if_pos t1] at this
            clear HC2
            generalize clipA f t (L.take k) = PL at *
            have HVV : Hid (∀ o1 o2, Row rAAr w.heap.size ((wr.alloc o1).alloc o2) u7 PL) := fun o1 o2 => (HV.out.below ((Below.refl _ _).alloc (Nat.le_refl _) o1)).below ((Below.refl _ _).alloc (Nat.le_refl _) o2)
            have HSZ : Hid (w.heap.size ≤ wr.heap.size) := HB.out.size
            go_wp2_with (at_builtin; refine list_app AAr.kin rfl _ _ rfl w.heap.size _ PL [⟨da, t, dw, dx, dh⟩] rfl (HVV.out _ _) (some ⟨wr.heap.size + 1, 0, none⟩) 1 1 rfl rfl ?a2 ?a3 ?a4 ?a5 ?_)
            case a2 => exact Seen.one (by simp) (AAr.new2 _ _ ⟨da, t, dw, dx, dh⟩) 1
            case a3 => have := HCN.out; show PL.length + 1 ≤ maxLen; unfold maxLen; omega
            case a4 => have := HCN.out; show (PL.length + 1) * 24 ≤ 140737488355328; omega
            case a5 => have := HSZ.out; simp; omega
            intro v' w2 hrow hgrow
            have HR2 : Hid (Row rAAr w.heap.size w2 v' (PL ++ [⟨da, t, dw, dx, dh⟩])) := hrow
            have HB2 : Hid (Below w.heap.size w w2) := ((HB.out.alloc HSZ.out _).alloc (by have := HSZ.out; simp; omega) _).grown hgrow (by have := HSZ.out; simp; omega) (fun k hk => (HV.out.lt k hk).1)
            clear hrow hgrow HV HB HVV HSZ
            go_wp2
            go_roundw
            case rel => exact ⟨k + 1, by omega, by go_num, by rw [HC3.out]; exact HR2, HB2⟩
            case measure => simp only [intOf]; omega
          · have HC3 : Hid (clipA f t (L.take (k + 1)) = clipA f t (L.take k)) := by
              have := HC2.out
              rwa [if_neg t1, List.append_nil] at this
            clear HC2
            have HVV : Hid (∀ o1, Row rAAr w.heap.size (wr.alloc o1) u7 (clipA f t (L.take (k + 1)))) := fun o1 => by rw [HC3.out]; exact HV.out.below ((Below.refl _ _).alloc (Nat.le_refl _) o1)
            have HBA : Hid (∀ o1, Below w.heap.size w (wr.alloc o1)) := fun o1 => HB.out.alloc HB.out.size o1
            clear HV HB HC3
            go_wp2
            go_roundw
            case rel => exact ⟨k + 1, by omega, by go_num, HVV.out _, HBA.out _⟩
            case measure => simp only [intOf]; omega
      · by_cases h2 : db ≤ t
        · have HC2 : Hid (clipA f t (L.take (k + 1)) = clipA f t (L.take k) ++ if f < db then [⟨f, db, dw, dx, dh⟩] else []) := by
            have := HC.out
            unfold clip1 at this
            rw [show max da f = f by omega, show min db t = db by omega] at this
            exact this
          clear HC
          by_cases t1 : f < db
          · have HC3 : Hid (clipA f t (L.take (k + 1)) = clipA f t (L.take k) ++ [⟨f, db, dw, dx, dh⟩]) := by
              have := HC2.out
              rwa [if_pos t1] at this
            clear HC2
            generalize clipA f t (L.take k) = PL at *
            have HVV : Hid (∀ o1 o2, Row rAAr w.heap.size ((wr.alloc o1).alloc o2) u7 PL) := fun o1 o2 => (HV.out.below ((Below.refl _ _).alloc (Nat.le_refl _) o1)).below ((Below.refl _ _).alloc (Nat.le_refl _) o2)
            have HSZ : Hid (w.heap.size ≤ wr.heap.size) := HB.out.size
            go_wp2_with (at_builtin; refine list_app AAr.kin rfl _ _ rfl w.heap.size _ PL [⟨f, db, dw, dx, dh⟩] rfl (HVV.out _ _) (some ⟨wr.heap.size + 1, 0, none⟩) 1 1 rfl rfl ?a2 ?a3 ?a4 ?a5 ?_)
            case a2 => exact Seen.one (by simp) (AAr.new2 _ _ ⟨f, db, dw, dx, dh⟩) 1
            case a3 => have := HCN.out; show PL.length + 1 ≤ maxLen; unfold maxLen; omega
            case a4 => have := HCN.out; show (PL.length + 1) * 24 ≤ 140737488355328; omega
            case a5 => have := HSZ.out; simp; omega
            intro v' w2 hrow hgrow
            have HR2 : Hid (Row rAAr w.heap.size w2 v' (PL ++ [⟨f, db, dw, dx, dh⟩])) := hrow
            have HB2 : Hid (Below w.heap.size w w2) := ((HB.out.alloc HSZ.out _).alloc (by have := HSZ.out; simp; omega) _).grown hgrow (by have := HSZ.out; simp; omega) (fun k hk => (HV.out.lt k hk).1)
            clear hrow hgrow HV HB HVV HSZ
            go_wp2
            go_roundw
            case rel => exact ⟨k + 1, by omega, by go_num, by rw [HC3.out]; exact HR2, HB2⟩
            case measure => simp only [intOf]; omega
          · have HC3 : Hid (clipA f t (L.take (k + 1)) = clipA f t (L.take k)) := by
              have := HC2.out
              rwa [if_neg t1, List.append_nil] at this
            clear HC2
            have HVV : Hid (∀ o1, Row rAAr w.heap.size (wr.alloc o1) u7 (clipA f t (L.take (k + 1)))) := fun o1 => by rw [HC3.out]; exact HV.out.below ((Below.refl _ _).alloc (Nat.le_refl _) o1)
            have HBA : Hid (∀ o1, Below w.heap.size w (wr.alloc o1)) := fun o1 => HB.out.alloc HB.out.size o1
            clear HV HB HC3
            go_wp2
            go_roundw
            case rel => exact ⟨k + 1, by omega, by go_num, HVV.out _, HBA.out _⟩
            case measure => simp only [intOf]; omega
        · have HC2 : Hid (clipA f t (L.take (k + 1)) = clipA f t (L.take k) ++ if f < t then [⟨f, t, dw, dx, dh⟩] else []) := by
            have := HC.out
            unfold clip1 at this
            rw [show max da f = f by omega, show min db t = t by omega] at this
            exact this
          clear HC
          by_cases t1 : f < t
          · have HC3 : Hid (clipA f t (L.take (k + 1)) = clipA f t (L.take k) ++ [⟨f, t, dw, dx, dh⟩]) := by
              have := HC2.out
              rwa [if_pos t1] at this
            clear HC2
            generalize clipA f t (L.take k) = PL at *
            have HVV : Hid (∀ o1 o2, Row rAAr w.heap.size ((wr.alloc o1).alloc o2) u7 PL) := fun o1 o2 => (HV.out.below ((Below.refl _ _).alloc (Nat.le_refl _) o1)).below ((Below.refl _ _).alloc (Nat.le_refl _) o2)
            have HSZ : Hid (w.heap.size ≤ wr.heap.size) := HB.out.size
            go_wp2_with (at_builtin; refine list_app AAr.kin rfl _ _ rfl w.heap.size _ PL [⟨f, t, dw, dx, dh⟩] rfl (HVV.out _ _) (some ⟨wr.heap.size + 1, 0, none⟩) 1 1 rfl rfl ?a2 ?a3 ?a4 ?a5 ?_)
            case a2 => exact Seen.one (by simp) (AAr.new2 _ _ ⟨f, t, dw, dx, dh⟩) 1
            case a3 => have := HCN.out; show PL.length + 1 ≤ maxLen; unfold maxLen; omega
            case a4 => have := HCN.out; show (PL.length + 1) * 24 ≤ 140737488355328; omega
            case a5 => have := HSZ.out; simp; omega
            intro v' w2 hrow hgrow
            have HR2 : Hid (Row rAAr w.heap.size w2 v' (PL ++ [⟨f, t, dw, dx, dh⟩])) := hrow
            have HB2 : Hid (Below w.heap.size w w2) := ((HB.out.alloc HSZ.out _).alloc (by have := HSZ.out; simp; omega) _).grown hgrow (by have := HSZ.out; simp; omega) (fun k hk => (HV.out.lt k hk).1)
            clear hrow hgrow HV HB HVV HSZ
            go_wp2
            go_roundw
            case rel => exact ⟨k + 1, by omega, by go_num, by rw [HC3.out]; exact HR2, HB2⟩
            case measure => simp only [intOf]; omega
          · have HC3 : Hid (clipA f t (L.take (k + 1)) = clipA f t (L.take k)) := by
              have := HC2.out
              rwa [if_neg t1, List.append_nil] at this
            clear HC2
            have HVV : Hid (∀ o1, Row rAAr w.heap.size (wr.alloc o1) u7 (clipA f t (L.take (k + 1)))) := fun o1 => by rw [HC3.out]; exact HV.out.below ((Below.refl _ _).alloc (Nat.le_refl _) o1)
            have HBA : Hid (∀ o1, Below w.heap.size w (wr.alloc o1)) := fun o1 => HB.out.alloc HB.out.size o1
            clear HV HB HC3
            go_wp2
            go_roundw
            case rel => exact ⟨k + 1, by omega, by go_num, HVV.out _, HBA.out _⟩
            case measure => simp only [intOf]; omega
    · obtain rfl : k = L.length := by omega
      have HV2 : Hid (Row rAAr w.heap.size wr u7 (clipA f t L)) := by
        have := HV.out
        rwa [List.take_length] at this
      clear HV
      go_wp2
      go_ret
      exact ⟨u7, rfl, HV2.out, HB.out⟩
end Go.Proofs.Ytoimmapdkapheaa
