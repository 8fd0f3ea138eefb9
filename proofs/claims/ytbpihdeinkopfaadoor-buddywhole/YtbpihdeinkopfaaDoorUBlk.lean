/- What buddy.blocks lays; condition: the table of math/bits lies as its text lays it. -/
import Derived.Test.YtbpihdeinkopfaaDoorUAli
namespace Go.Proofs.YtbpihdeinkopfaaDoor
open Go.RowKit

/-- The first j blocks of a run. -/
def splK (r : Bk) (j : Nat) : List Bk := (List.range j).map fun k => (r.1 + k * 2 ^ min r.2 5, min r.2 5)
theorem splK_succ (r : Bk) (j : Nat) : splK r (j + 1) = splK r j ++ [(r.1 + j * 2 ^ min r.2 5, min r.2 5)] := by
  unfold splK
  rw [List.range_succ, List.map_append]
  rfl
theorem splK_all (r : Bk) : splK r (2 ^ (r.2 - min r.2 5)) = spl r := rfl
theorem splK_len (r : Bk) (j : Nat) : (splK r j).length = j := by simp [splK]
theorem cut_in : ∀ (n f t : Nat), t - f ≤ n → t ≤ 1048576 → ∀ r ∈ cutL f t, r.2 ≤ 20 ∧ r.1 + 2 ^ r.2 ≤ t := by
  intro n
  induction n with
  | zero =>
    intro f t h ht r hr
    rw [cutL_ge f t (by omega)] at hr
    simp at hr
  | succ n ih =>
    intro f t h ht r hr
    rcases Nat.lt_or_ge f t with hlt | hlt
    · rw [cutL_lt f t hlt] at hr
      have ho := ordN_fits f t hlt ht
      have hp := Nat.two_pow_pos (ordN f t)
      rcases List.mem_cons.1 hr with rfl | hr
      · exact ⟨ordN_le f t, ho.2⟩
      · exact ih _ t (by omega) ht r hr
    · rw [cutL_ge f t hlt] at hr
      simp at hr
theorem flat_take (CL : List Bk) (k : Nat) (hk : k < CL.length) : (CL.take (k + 1)).flatMap spl = (CL.take k).flatMap spl ++ spl (CL.getD k (0, 0)) := by
  rw [List.take_succ_eq_append_getElem hk, List.flatMap_append, List.getD_eq_getElem?_getD, List.getElem?_eq_getElem hk]
  simp
theorem flat_len {f t : Nat} (h : f ≤ t) (ht : t ≤ 1048576) (k : Nat) : (((cutL f t).take k).flatMap spl).length ≤ t - f := by
  have h1 := (blk_cvr h ht).len
  unfold blkL at h1
  rw [← List.take_append_drop k (cutL f t), List.flatMap_append, List.length_append] at h1
  omega

theorem tag_ne {α : Type} {R : Rec α} {w : World} {B b : Nat} {t : TypeId} {cs : Array Value} {v : Value} {l : List α} (hl : Laid w b t cs) (hr : Row R B w v l) (ht : t ≠ R.t) : some b ≠ v.ownBlock := by
  intro e
  obtain ⟨cur, hcur⟩ := hr.tag e.symm
  exact ne_of_tag hl hcur ht rfl
theorem laid_grow {α : Type} {R : Rec α} {w w' : World} {B b : Nat} {t : TypeId} {cs : Array Value} {v : Value} {l : List α} (hl : Laid w b t cs) (hr : Row R B w v l) (ht : t ≠ R.t) (hg : w.grownBy w' v.ownBlock) : Laid w' b t cs :=
  hl.kept hg (tag_ne hl hr ht)

set_option maxRecDepth 100000 in
set_option maxHeartbeats 4000000 in
theorem blocks_any (f0 t : Nat) (w : World) (hT : Tab w) (hf : f0 ≤ t) (ht : t ≤ 1024) :
    Calls Tryd.prog 25 #[.int .i64 f0, .int .i64 t] w fun e w' => ∃ v, e = .returned v ∧ Row rB w.heap.size w' v (blkL f0 t) ∧ Below w.heap.size w w' ∧ (blkL f0 t = [] → v = .slice none 0 0) := by
  have hC := cut_yes f0 t w hT hf (by omega)
  go_enter Tryd.func25, Tryd.ntmps25
  go_wp2_with fail
  refine hC.mono ?_
  rintro e w1 ⟨u, rfl, ho, hb1⟩
  have hR : Row rC w.heap.size w1 u (cutL f0 t) := ho
  obtain ⟨ao, c, rfl⟩ := hR.form
  have HR : Hid (Row rC w.heap.size w1 (.slice ao (cutL f0 t).length c) (cutL f0 t)) := hR
  have HB1 : Hid (Below w.heap.size w w1) := hb1
  have hin := cut_in t f0 t (by omega) (by omega)
  have HIN : Hid (∀ r ∈ cutL f0 t, r.2 ≤ 20 ∧ r.1 + 2 ^ r.2 ≤ t) := hin
  have HFL : Hid (∀ k, (((cutL f0 t).take k).flatMap spl).length ≤ t) := fun k => by have := flat_len hf (show t ≤ 1048576 by omega) k; omega
  have hcl : (cutL f0 t).length ≤ 1024 := by have := cutL_length (t - f0) f0 t (Nat.le_refl _); omega
  have HBL : Hid (blkL f0 t = (cutL f0 t).flatMap spl) := rfl
  clear hR ho hb1 hC hT hin
  generalize cutL f0 t = CL at *
  go_wp2
  go_loopw [7, 20] (fun v i wr => ∃ k : Nat, k ≤ CL.length ∧ i = .int .i64 k ∧ Hid (Row rB w1.heap.size wr v ((CL.take k).flatMap spl)) ∧ Hid (Below w1.heap.size w1 wr) ∧ Hid ((CL.take k).flatMap spl = [] → v = .slice none 0 0)) (fun _ i _ => CL.length - (intOf i).toNat)
  case atStart => exact ⟨0, Nat.zero_le _, rfl, Row.nil _ _ _, Below.refl _ _, fun _ => rfl⟩
  case round =>
    obtain ⟨k, hk, rfl, HV, HB, HN⟩ := hrel
    by_cases hlt : k < CL.length
    · have hltz : (k : Int) < (CL.length : Int) := by omega
      obtain ⟨g, rfl, _, _, hg, _, _, hat⟩ := (HR.out.below HB.out).at hlt
      have c0 := hat 0 (by decide)
      have c1 := hat 1 (by decide)
      simp only [show rC.n = 2 from rfl, show rC.zero = (0, 0) from rfl] at c0 c1
      have hr := HIN.out (CL.getD k (0, 0)) (by rw [List.getD_eq_getElem?_getD, List.getElem?_eq_getElem hlt]; exact List.getElem_mem hlt)
      have HF : Hid ((CL.take (k + 1)).flatMap spl = (CL.take k).flatMap spl ++ spl (CL.getD k (0, 0))) := flat_take CL k hlt
      have hln := HFL.out (k + 1)
      rw [HF.out, List.length_append] at hln
      generalize CL.getD k (0, 0) = r at *
      obtain ⟨a, q⟩ := r
      obtain ⟨o, ho⟩ : ∃ o, o = min q 5 := ⟨_, rfl⟩
      obtain ⟨m, hm⟩ : ∃ m, m = 2 ^ (q - o) := ⟨_, rfl⟩
      have hq : 2 ^ q = m * 2 ^ o := by rw [hm, ← Nat.pow_add]; congr 1; omega
      have hm1 : m ≤ 1024 := by have := Nat.two_pow_pos o; have : m * 1 ≤ m * 2 ^ o := Nat.mul_le_mul_left _ this; simp only at hr; omega
      simp only [bcells, rC, List.getElem?_cons_zero, List.getElem?_cons_succ, Nat.add_zero] at c0 c1 hr
      have ho5 : o ≤ 5 := by omega
      have HOM : Hid (o = min q 5) := ho
      have hoz : min (q : Int) 5 = (o : Int) := by omega
      have hS : spl (a, q) = splK (a, q) m := by rw [hm, ho]; rfl
      have HSP : Hid (∀ j, splK (a, q) (j + 1) = splK (a, q) j ++ [(a + j * 2 ^ o, o)]) := fun j => by rw [splK_succ, ← HOM.out]
      have hP : (0 : Int) < 2 ^ o := Int.pow_pos (by decide)
      have hPn : ((2 ^ o : Nat) : Int) = 2 ^ o := by simp
      have hQn : ((2 ^ q : Nat) : Int) = 2 ^ q := by simp
      rw [hS] at HF hln
      rw [splK_len] at hln
      have HLN : Hid (((CL.take k).flatMap spl).length + m ≤ t) := hln
      have HQ : Hid (2 ^ q = m * 2 ^ o) := hq
      have HPN : Hid (((2 ^ o : Nat) : Int) = 2 ^ o) := hPn
      have HQN : Hid (((2 ^ q : Nat) : Int) = 2 ^ q) := hQn
      have hP2 : (2 : Int) ^ o ≤ 32 := by have : 2 ^ o ≤ 2 ^ 5 := Nat.pow_le_pow_right (by omega) ho5; omega
      have hQ0 : (0 : Int) ≤ 2 ^ q := Int.le_of_lt (Int.pow_pos (by decide))
      have hQ2 : (a : Int) + 2 ^ q ≤ t := by omega
      clear hat hlt hS hln hq hPn hQn hk HR HIN HFL HBL ho hm
      generalize (CL.take k).flatMap spl = PL at *
      have HB0 : Hid (Below w1.heap.size w1 (wr.alloc (.cells #[.int .i64 a, .int .i64 q] 66))) := HB.out.alloc HB.out.size _
      have HV0 : Hid (Row rB w1.heap.size (wr.alloc (.cells #[.int .i64 a, .int .i64 q] 66)) u7 PL) := HV.out.below ((Below.refl _ _).alloc (Nat.le_refl _) _)
      have HL0 : Hid (Laid (wr.alloc (.cells #[.int .i64 a, .int .i64 q] 66)) wr.heap.size 66 #[.int .i64 a, .int .i64 q]) := Laid.new _ _ _
      clear HV HB
      go_wp2
      clear hoz c0 c1
      go_loopw [7, 11] (fun v fi W => ∃ j y : Nat, j ≤ m ∧ fi = .int .i64 y ∧ Hid (y = a + j * 2 ^ o) ∧ Hid (Row rB w1.heap.size W v (PL ++ splK (a, q) j)) ∧ Hid (PL ++ splK (a, q) j = [] → v = .slice none 0 0) ∧ Hid (Laid W wr.heap.size 66 #[.int .i64 a, .int .i64 q]) ∧ Hid (Below w1.heap.size w1 W)) (fun _ fi _ => (a + 2 ^ q) - (intOf fi).toNat)
      case atStart => exact ⟨0, a, Nat.zero_le _, rfl, (by simp : a = a + 0 * 2 ^ o), (by simpa [splK] using HV0.out : Row rB w1.heap.size _ u7 (PL ++ splK (a, q) 0)), (by simpa [splK] using HN.out : PL ++ splK (a, q) 0 = [] → u7 = .slice none 0 0), HL0, HB0⟩
      case round =>
        obtain ⟨j, y, hj, rfl, HY, HV, HN, HL, HB⟩ := hrel
        clear HV0 HL0 HB0
        have c0 := HL.out.cell 0
        have c1 := HL.out.cell 1
        simp at c0 c1
        by_cases hjm : j < m
        · have h1 : (j + 1) * 2 ^ o ≤ m * 2 ^ o := Nat.mul_le_mul_right _ hjm
          rw [Nat.add_mul] at h1
          have hlt2 : (y : Int) < (a : Int) + 2 ^ q := by have := HQ.out; have := HY.out; have := HQN.out; have := HPN.out; omega
          have hbnd : (y : Int) + 2 ^ o ≤ 1024 := by have := HQ.out; have := HY.out; have := HQN.out; have := HPN.out; omega
          clear h1
          have HO := HSP.out j
          have HO' : Hid (splK (a, q) (j + 1) = splK (a, q) j ++ [(y, o)]) := (by rw [HO, ← HY.out] : splK (a, q) (j + 1) = splK (a, q) j ++ [(y, o)])
          have HYS : Hid (((y : Int) + 2 ^ o = ((y + 2 ^ o : Nat) : Int)) ∧ y + 2 ^ o = a + (j + 1) * 2 ^ o) := (⟨by have := HPN.out; omega, by rw [HY.out, Nat.add_mul]; omega⟩ : ((y : Int) + 2 ^ o = ((y + 2 ^ o : Nat) : Int)) ∧ y + 2 ^ o = a + (j + 1) * 2 ^ o)
          have hlp : (PL ++ splK (a, q) j).length + 1 ≤ 1024 := by have := HLN.out; rw [List.length_append, splK_len]; omega
          generalize splK (a, q) j = SJ at *
          clear HO HY HSP hg HLN
          have hv := fun n ob => HV.out.below ((below_drewN (Below.refl wr.heap.size wr) n).alloc (Nat.le_refl _) ob)
          have HVV : Hid (∀ n ob, Row rB w1.heap.size ((wr.drewN n).alloc ob) u7 (PL ++ SJ)) := hv
          have hv2 := fun n ob => HL.out.below ((below_drewN (Below.refl wr.heap.size wr) n).alloc (Nat.le_refl _) ob)
          have HLV : Hid (∀ n ob, Laid ((wr.drewN n).alloc ob) _ 66 #[.int .i64 a, .int .i64 q]) := hv2
          have HSZ : Hid (w1.heap.size ≤ wr.heap.size) := HB.out.size
          clear hv hv2
          go_wp2
          go_quiet (fail)
          go_wp2_with (at_builtin; refine list_app rB.kin rfl _ _ rfl w1.heap.size _ (PL ++ SJ) [(y, o)] rfl (HVV.out _ _) (some ⟨wr.heap.size, 0, none⟩) 1 1 rfl rfl ?a2 ?a3 ?a4 ?a5 ?_)
          case a2 => exact Seen.one (by simp) (At.new (R := rB) _ (y, o) _ rfl) 1
          case a3 => simp only [List.length_cons, List.length_nil]; unfold maxLen; omega
          case a4 => simp only [List.length_cons, List.length_nil, show rB.bytes = 16 from rfl]; omega
          case a5 => have := HSZ.out; simp; omega
          intro v' w2 hrow hgrow
          have HR2 : Hid (Row rB w1.heap.size w2 v' (PL ++ (SJ ++ [(y, o)]))) := hrow
          have HL2 : Hid (Laid w2 _ 66 #[.int .i64 a, .int .i64 q]) := laid_grow (HLV.out _ _) (HVV.out _ _) (by decide) hgrow
          have HB2 : Hid (Below w1.heap.size w1 w2) := ((below_drewN HB.out _).alloc HSZ.out _).grown hgrow (by have := HSZ.out; simp; omega) (fun k hk => (HV.out.lt k hk).1)
          clear hrow hgrow HV HL HB HVV HSZ HLV
          go_wp2
          go_roundw
          case rel => exact ⟨j + 1, y + 2 ^ o, by omega, by rw [← HYS.out.1], HYS.out.2, (by rw [HO'.out]; exact HR2.out : Row rB w1.heap.size _ _ (PL ++ splK (a, q) (j + 1))), (by rw [HO'.out]; intro h; simp at h : PL ++ splK (a, q) (j + 1) = [] → _ = Value.slice none 0 0), HL2, HB2⟩
          case measure => simp only [intOf]; have := HYS.out; have := HPN.out; have := HQN.out; omega
        · obtain rfl : j = m := by omega
          have hlt2 : ¬ (y : Int) < (a : Int) + 2 ^ q := by have := HQ.out; have := HY.out; have := HQN.out; have := HPN.out; omega
          go_wp2
          go_quiet (fail)
          go_wp2
          go_roundw
          case rel => exact ⟨k + 1, by omega, by go_num, by rw [HF.out]; exact HV.out.below (below_drewN (Below.refl _ _) _), below_drewN HB.out _, by rw [HF.out]; exact HN⟩
          case measure => simp only [intOf]; omega
    · obtain rfl : k = CL.length := by omega
      have HV' := HV.out
      rw [List.take_length, ← HBL.out] at HV'
      have HV2 : Hid (Row rB w1.heap.size wr u7 (blkL f0 t)) := HV'
      have HN' := HN.out
      rw [List.take_length, ← HBL.out] at HN'
      have HN2 : Hid (blkL f0 t = [] → u7 = .slice none 0 0) := HN'
      clear HV HV' HN HN'
      go_wp2
      go_ret
      exact ⟨u7, rfl, HV2.out.lower HB1.out.size, below_call' HB1.out HB.out, HN2.out⟩
end Go.Proofs.YtbpihdeinkopfaaDoor
