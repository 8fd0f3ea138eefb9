/- Lists side by side. -/
import Derived.Test.YtoimmapdkapheaaACov
namespace Go.Proofs.Ytoimmapdkapheaa
set_option maxRecDepth 4000
open Go.RowKit

theorem stp_zero (d : AAr) : stpA [] d = [d] := rfl
theorem stp_set {PL : List AAr} {m : Nat} (hm : PL.length = m + 1) {d : AAr} (h : oneB (PL.getD m AAr.zero) d = true) : stpA PL d = PL.set m ⟨(PL.getD m AAr.zero).a, d.b, (PL.getD m AAr.zero).w, (PL.getD m AAr.zero).x, (PL.getD m AAr.zero).h⟩ := by
  unfold stpA glueB
  rw [hm, Nat.add_sub_cancel, h, if_pos (by simp)]
theorem stp_app {PL : List AAr} {m : Nat} (hm : PL.length = m + 1) {d : AAr} (h : oneB (PL.getD m AAr.zero) d = false) : stpA PL d = PL ++ [d] := by
  unfold stpA glueB
  rw [hm, Nat.add_sub_cancel, h, if_neg (by simp)]
theorem take_oneG {α : Type} (L : List α) {i : Nat} (h : i < L.length) (z : α) : L.take (i + 1) = L.take i ++ [L.getD i z] := by
  rw [List.take_add_one, List.getD_eq_getElem?_getD, List.getElem?_eq_getElem h]
  rfl
/-- Some lists, each as it lies. -/
abbrev Ls := Option Addr × Nat × List AAr
def Ls.v (x : Ls) : Value := .slice x.1 x.2.2.length x.2.1
def joinL (T : List Ls) : List AAr := T.flatMap fun x => x.2.2
/-- What side by side they tell. -/
def SideW (w : World) (M : List AAr) (e : Ending) (w' : World) : Prop :=
  (if M.length ≤ 64 then ∃ v, e = .returned (.tuple #[v, .nilIface]) ∧ Row rAAr w.heap.size w' v M else e = .returned (.tuple #[.slice none 0 0, .iface 48 (.int .i64 5)])) ∧ Below w.heap.size w w'

theorem Row.at' {α : Type} {R : Rec α} {B : Nat} {w : World} {v : Value} {l : List α} (h : Row R B w v l) {ao : Option Addr} {n c : Nat} (e : v = .slice ao n c) {k : Nat} (hk : k < l.length) : ∃ g, ao = some ⟨g, 0, none⟩ ∧ n = l.length ∧ B ≤ g ∧ g < w.heap.size ∧ l.length ≤ c ∧ c ≤ maxLen ∧ At R w g (k * R.n) (l.getD k R.zero) := by
  subst e
  exact h.at hk
set_option maxRecDepth 100000 in
set_option maxHeartbeats 8000000 in
theorem side_any {w : World} {b c : Nat} {T : List Ls} (hT : ∀ i, i < T.length → w.cell? ⟨b, i, none⟩ = some (Ls.v (T.getD i (none, 0, []))) ∧ Sn rAAr w (T.getD i (none, 0, [])).1 (T.getD i (none, 0, [])).2.2) (hb : b < w.heap.size) (hl : T.length ≤ 3) (hX : (joinL T).length ≤ 1000) :
    Calls Try.prog 59 #[.slice (some ⟨b, 0, none⟩) T.length c] w (SideW w (mrgA [] (joinL T))) := by
  have HT : Hid (∀ i, i < T.length → w.cell? ⟨b, i, none⟩ = some (Ls.v (T.getD i (none, 0, []))) ∧ Sn rAAr w (T.getD i (none, 0, [])).1 (T.getD i (none, 0, [])).2.2) := hT
  have HX : Hid ((joinL T).length ≤ 1000) := hX
  clear hT hX
  go_enter Try.func59, Try.ntmps59
  go_wp2
  go_loopw [4, 12] (fun vv iv W => ∃ j : Nat, j ≤ T.length ∧ iv = .int .i64 j ∧ Hid (Row rAAr w.heap.size W vv (mrgA [] (joinL (T.take j)))) ∧ Hid (Below w.heap.size w W)) (fun _ iv _ => T.length - (intOf iv).toNat)
  case atStart => exact ⟨0, Nat.zero_le _, rfl, Row.nil _ _ _, Below.refl _ _⟩
  case round =>
    obtain ⟨j, hj, rfl, HV, HB⟩ := hrel
    by_cases hjt : j < T.length
    · have hjz : (j : Int) < (T.length : Int) := by omega
      obtain ⟨q0, q1⟩ := HT.out j hjt
      have hjo : joinL (T.take (j + 1)) = joinL (T.take j) ++ (T.getD j (none, 0, [])).2.2 := by
        unfold joinL
        rw [take_oneG T hjt (none, 0, []), List.flatMap_append]
        simp only [List.flatMap_cons, List.flatMap_nil, List.append_nil]
      have hjl : (joinL (T.take (j + 1))).length ≤ 1000 := by
        have e : joinL T = joinL (T.take (j + 1)) ++ joinL (T.drop (j + 1)) := by
          unfold joinL
          rw [← List.flatMap_append, List.take_append_drop]
        have := HX.out
        rw [e, List.length_append] at this
        omega
      have hc : wr.cell? ⟨b, j, none⟩ = some (Ls.v (T.getD j (none, 0, []))) := ((bcell HB.out).1 b j hb).trans q0
      have hS := q1
      generalize T.getD j (none, 0, []) = x at *
      obtain ⟨ao, cx, L⟩ := x
      unfold Ls.v at hc
      simp only at hc hS hjo
      rw [hjo, List.length_append] at hjl
      have HS : Hid (Sn rAAr w ao L) := hS
      have HJ : Hid (joinL (T.take (j + 1)) = joinL (T.take j) ++ L) := hjo
      generalize joinL (T.take j) = XJ at *
      have HJL : Hid (XJ.length + L.length ≤ 1000) := hjl
      have hll : L.length ≤ 1000 := by omega
      have HV0 : Hid (Row rAAr w.heap.size wr u4 (mrgA [] (XJ ++ L.take 0))) := by
        rw [List.take_zero, List.append_nil]
        exact HV
      clear q0 q1 hS hjo hjl HV HT HX
      go_wp2
      go_loopw [4, 18] (fun vv iv W => ∃ k : Nat, k ≤ L.length ∧ iv = .int .i64 k ∧ Hid (Row rAAr w.heap.size W vv (mrgA [] (XJ ++ L.take k))) ∧ Hid (Below w.heap.size w W)) (fun _ iv _ => L.length - (intOf iv).toNat)
      case atStart => exact ⟨0, Nat.zero_le _, rfl, HV0, HB⟩
      case round =>
        obtain ⟨k, hk, rfl, HV, HC⟩ := hrel
        clear HV0 HB
        by_cases hlt : k < L.length
        · have hltz : (k : Int) < (L.length : Int) := by omega
          obtain ⟨g, off, rfl, hg, c0, c1, c2, c3, c4⟩ := AAr.sn (HS.out.below HC.out) hlt
          have hst : mrgA [] (XJ ++ L.take (k + 1)) = stpA (mrgA [] (XJ ++ L.take k)) (L.getD k AAr.zero) := by
            rw [take_one L hlt AAr.zero, ← List.append_assoc, mrg_append, mrg_one]
          have hpl : (mrgA [] (XJ ++ L.take k)).length ≤ 1000 := by
            have h1 := mrg_len (XJ ++ L.take k) []
            have h2 := HJL.out
            rw [List.length_append, List.length_take, List.length_nil] at h1
            omega
          generalize mrgA [] (XJ ++ L.take k) = PL at *
          generalize L.getD k AAr.zero = d at *
          have HSZ : Hid (w.heap.size ≤ wr.heap.size) := HC.out.size
          have HBA : Hid (∀ o1, Below w.heap.size w (wr.alloc o1)) := fun o1 => HC.out.alloc HC.out.size o1
          have HBA2 : Hid (∀ n o1 o2, Below w.heap.size w (((wr.drewN n).alloc o1).alloc o2)) := fun n o1 o2 => ((below_drewN HC.out n).alloc HC.out.size o1).alloc (by have := HC.out.size; simp; omega) o2
          have HVA : Hid (∀ n o1 o2, Row rAAr w.heap.size (((wr.drewN n).alloc o1).alloc o2) u4 PL) := fun n o1 o2 => (HV.out.below ((below_drewN (Below.refl _ _) n).alloc (Nat.le_refl _) o1)).below ((Below.refl _ _).alloc (Nat.le_refl _) o2)
          have HPL : Hid (PL.length ≤ 1000) := hpl
          rcases Nat.eq_zero_or_pos PL.length with h0 | h0
          · obtain rfl := List.eq_nil_of_length_eq_zero h0
            rw [stp_zero] at hst
            have HST : Hid (mrgA [] (XJ ++ L.take (k + 1)) = [] ++ [d]) := hst
            obtain ⟨a4, c4', e4⟩ := HV.out.form
            subst e4
            rw [List.length_nil] at *
            obtain ⟨da, db, dw, dx, dh⟩ := d
            simp only at *
            clear hst h0 hpl HV HC
            go_wp2
            go_quiet (fail)
            go_wp2_with (at_builtin; refine list_app AAr.kin rfl _ _ rfl w.heap.size _ [] [⟨da, db, dw, dx, dh⟩] rfl (HVA.out _ _ _) (some ⟨wr.heap.size + 1, 0, none⟩) 1 1 rfl rfl ?a2 ?a3 ?a4 ?a5 ?_)
            case a2 => exact Seen.one (by simp) (AAr.new2 _ _ ⟨da, db, dw, dx, dh⟩) 1
            case a3 => show 0 + 1 ≤ maxLen; unfold maxLen; omega
            case a4 => show (0 + 1) * 24 ≤ 140737488355328; omega
            case a5 => have := HSZ.out; simp; omega
            intro v' w2 hrow hgrow
            have HR2 : Hid (Row rAAr w.heap.size w2 v' ([] ++ [⟨da, db, dw, dx, dh⟩])) := hrow
            have HB2 : Hid (Below w.heap.size w w2) := (HBA2.out _ _ _).grown hgrow (by have := HSZ.out; simp; omega) (fun k hk => ((HVA.out 0 default default).lt k hk).1)
            clear hrow hgrow HVA HSZ HBA2 HBA
            go_wp2
            go_roundw
            case rel => exact ⟨k + 1, by omega, by go_num, by rw [HST.out]; exact HR2, HB2⟩
            case measure => simp only [intOf]; omega
          · obtain ⟨m, hm⟩ : ∃ m, PL.length = m + 1 := ⟨PL.length - 1, by omega⟩
            rcases HV.out.cases with ⟨-, e0⟩ | ⟨g2, c2', cur, e2, hgB, hg2, -, hlc, hcm, -, -⟩
            · rw [e0] at h0
              simp at h0
            obtain ⟨g3, e3, -, -, -, -, -, hat⟩ := HV.out.at' e2 (show m < PL.length by omega)
            cases e3
            obtain ⟨p0, p1, p2, p3, p4⟩ := AAr.at hat
            simp only [show rAAr.n = 5 from rfl, show rAAr.zero = AAr.zero from rfl] at p0 p1 p2 p3 p4
            subst e2
            have hOn := fun w => one_any (PL.getD m AAr.zero) d w
            have HSET : Hid (oneB (PL.getD m AAr.zero) d = true → mrgA [] (XJ ++ L.take (k + 1)) = PL.set m ⟨(PL.getD m AAr.zero).a, d.b, (PL.getD m AAr.zero).w, (PL.getD m AAr.zero).x, (PL.getD m AAr.zero).h⟩) := fun h => hst.trans (stp_set hm h)
            have HAPP : Hid (oneB (PL.getD m AAr.zero) d = false → mrgA [] (XJ ++ L.take (k + 1)) = PL ++ [d]) := fun h => hst.trans (stp_app hm h)
            have HE : Hid (∃ x, x = PL.getD m AAr.zero) := ⟨_, rfl⟩
            have HPE : Hid (∀ x, x = PL.getD m AAr.zero → x = PL.getD m AAr.zero) := fun _ h => h
            have HM : Hid (PL.length = m + 1) := hm
            have hm1 : m ≤ 999 := by omega
            have hmz : (m : Int) < (PL.length : Int) := by omega
            have hnm : (PL.length : Int) - 1 = (m : Int) := by omega
            have HVA0 : Hid (∀ o1, Row rAAr w.heap.size (wr.alloc o1) (.slice (some ⟨g2, 0, none⟩) PL.length c2') PL) := fun o1 => HV.out.below ((Below.refl _ _).alloc (Nat.le_refl _) o1)
            obtain ⟨e, he⟩ : ∃ e, PL.getD m AAr.zero = e := ⟨_, rfl⟩
            have HEE : Hid (PL.getD m AAr.zero = e) := he
            rw [he] at p0 p1 p2 p3 p4 hOn HSET HAPP
            have hwm : IntKind.i64.wrap (m : Int) = (m : Int) := by rw [IntKind.wrap_i64]; omega
            have hm0 : (0 : Int) ≤ (m : Int) := by omega
            have hWS : ∀ n o1, wr.heap.size < ((wr.drewN n).alloc o1).heap.size := fun n o1 => by simp
            have hg3 : ∀ n o1, g2 < ((wr.drewN n).alloc o1).heap.size := fun n o1 => by simp; omega
            clear hst h0 hpl HE HPE he hm hlc hat HV
            generalize oneB e d = o at *
            obtain ⟨da, db, dw, dx, dh⟩ := d
            obtain ⟨ea, eb, ew, ex, eh⟩ := e
            unfold av at hOn
            simp only at *
            go_wp2
            go_region_held3 (fun w' => w'.cell? ⟨wr.heap.size, 0, none⟩ = some (.int .i64 da) ∧ w'.cell? ⟨wr.heap.size, 1, none⟩ = some (.int .i64 db) ∧ w'.cell? ⟨wr.heap.size, 2, none⟩ = some (.bool dw) ∧ w'.cell? ⟨wr.heap.size, 3, none⟩ = some (.bool dx) ∧ w'.cell? ⟨wr.heap.size, 4, none⟩ = some (.bool dh) ∧ w'.cell? ⟨g2, m * 5, none⟩ = some (.int .i64 ea) ∧ w'.cell? ⟨g2, m * 5 + 1, none⟩ = some (.int .i64 eb) ∧ w'.cell? ⟨g2, m * 5 + 2, none⟩ = some (.bool ew) ∧ w'.cell? ⟨g2, m * 5 + 3, none⟩ = some (.bool ex) ∧ w'.cell? ⟨g2, m * 5 + 4, none⟩ = some (.bool eh)) (go_keep) (first | (go_at_call 73; refine (hOn _).mono ?_; rintro e w6 ⟨rfl, hb6⟩; have hx6 := fun o => (bcell hb6).1 wr.heap.size o (hWS _ _); have hx7 := fun o => ((bcell hb6).1 g2 o (hg3 _ _)).trans (cell_alloc_old hg2 o _)))
            have HB6 : Hid (Below w.heap.size w w6) := below_call (HBA.out _) (HBA.out (.cells #[.int .i64 da, .int .i64 db, .bool dw, .bool dx, .bool dh] 55)).size ⟨hb6.os, hb6.tape, hb6.output, hb6.size, hb6.block⟩
            have HR6 : Hid (Row rAAr w.heap.size w6 (.slice (some ⟨g2, 0, none⟩) PL.length c2') PL) := (HVA0.out (.cells #[.int .i64 da, .int .i64 db, .bool dw, .bool dx, .bool dh] 55)).below ⟨hb6.os, hb6.tape, hb6.output, hb6.size, hb6.block⟩
            have hf6 := HR6.out.frozen (m * 5 + 1)
            have hg6 : g2 < w6.heap.size := (HR6.out.lt g2 rfl).2
            clear hx6 hx7 hb6 hOn c0 c1 c2 c3 c4 p0 p1 p2 p3 p4
            cases o with
            | true =>
              have HY : Hid (mrgA [] (XJ ++ L.take (k + 1)) = PL.set m ⟨ea, db, ew, ex, eh⟩) := HSET.out (by first | rfl | trivial)
              clear HSET HAPP
              go_wp2
              go_roundw
              case rel =>
                refine ⟨k + 1, by omega, by go_num, ?_, ?_⟩
                · have hml : m < PL.length := by have := HM.out; omega
                  have h := HR6.out.put1 m 1 (.int .i64 db) ⟨ea, db, ew, ex, eh⟩ hml (by decide) (by rw [show PL.getD m rAAr.zero = ⟨ea, eb, ew, ex, eh⟩ from HEE.out]; rfl)
                  rw [HY.out]
                  exact h
                · exact HB6.out.trans ((Keeps.set w6 g2 _ _).below HB6.out.size fun c _ e => by rw [e]; exact hgB)
              case measure => simp only [intOf]; omega
            | false =>
              have HY : Hid (mrgA [] (XJ ++ L.take (k + 1)) = PL ++ [⟨da, db, dw, dx, dh⟩]) := HAPP.out (by first | rfl | trivial)
              clear HSET HAPP
              have HR7 : Hid (∀ o1, Row rAAr w.heap.size (w6.alloc o1) (.slice (some ⟨g2, 0, none⟩) PL.length c2') PL) := fun o1 => HR6.out.below ((Below.refl _ _).alloc (Nat.le_refl _) o1)
              go_wp2_with (at_builtin; refine list_app AAr.kin rfl _ _ rfl w.heap.size _ PL [⟨da, db, dw, dx, dh⟩] rfl (HR7.out _) (some ⟨w6.heap.size, 0, none⟩) 1 1 rfl rfl ?a2 ?a3 ?a4 ?a5 ?_)
              case a2 => exact Seen.one (by simp) (At.new (R := rAAr) w6 ⟨da, db, dw, dx, dh⟩ _ rfl) 1
              case a3 => have := HPL.out; show PL.length + 1 ≤ maxLen; unfold maxLen; omega
              case a4 => have := HPL.out; show (PL.length + 1) * 24 ≤ 140737488355328; omega
              case a5 => have := HB6.out.size; simp; omega
              intro v' w2 hrow hgrow
              have HR2 : Hid (Row rAAr w.heap.size w2 v' (PL ++ [⟨da, db, dw, dx, dh⟩])) := hrow
              have HB2 : Hid (Below w.heap.size w w2) := (HB6.out.alloc HB6.out.size _).grown hgrow (by have := HB6.out.size; simp; omega) (fun k hk => ((HR7.out default).lt k hk).1)
              clear hrow hgrow HR7 HR6
              go_wp2
              go_roundw
              case rel => exact ⟨k + 1, by omega, by go_num, by rw [HY.out]; exact HR2, HB2⟩
              case measure => simp only [intOf]; omega
        · obtain rfl : k = L.length := by omega
          have HV2 : Hid (Row rAAr w.heap.size wr u4 (mrgA [] (joinL (T.take (j + 1))))) := by
            have := HV.out
            rw [List.take_length, ← HJ.out] at this
            exact this
          clear HV
          go_wp2
          go_roundw
          case rel => exact ⟨j + 1, by omega, by go_num, HV2, HC⟩
          case measure => simp only [intOf]; omega
    · obtain rfl : j = T.length := by omega
      have hV := HV.out
      rw [List.take_length] at hV
      have HP : Hid (∀ e w', SideW w (mrgA [] (joinL T)) e w' → SideW w (mrgA [] (joinL T)) e w') := fun _ _ h => h
      generalize mrgA [] (joinL T) = M at *
      obtain ⟨am, cm, rfl⟩ := hV.form
      have HV2 : Hid (Row rAAr w.heap.size wr (.slice am M.length cm) M) := hV
      clear hV HV
      by_cases h64 : M.length ≤ 64
      · have h64z : ¬ 64 < (M.length : Int) := by omega
        go_wp2
        go_ret2
        refine ⟨?_, HB.out⟩
        rw [if_pos h64]
        exact ⟨_, rfl, HV2.out⟩
      · have h64z : 64 < (M.length : Int) := by omega
        go_wp2
        go_ret2
        refine ⟨?_, HB.out⟩
        rw [if_neg h64]
        rfl
end Go.Proofs.Ytoimmapdkapheaa
