/- TlbDrops: the walk. -/
import Derived.Test.YtpkagigjcnjlpaaEFills
namespace Go.Proofs.Ytpkagigjcnjlpaa
open Go.RowKit

def goB (space : Bool) (asid page : Int) (x : Ent) : Bool := if space then spB asid x else pgB asid page x
theorem stay_split (q : Ent → Bool) (l : List Ent) (i : Nat) : stay q l = stay q (l.take i) ++ stay q (l.drop i) := by
  unfold stay
  rw [← List.filter_append, List.take_append_drop]
theorem stay_next {q : Ent → Bool} {l : List Ent} {i : Nat} (hi : i < l.length) (h : q (l.getD i Ent.zero) = false) : (stay q (l.take i)).length < (stay q l).length ∧ (stay q l).getD (stay q (l.take i)).length Ent.zero = l.getD i Ent.zero ∧ (stay q (l.take (i + 1))).length = (stay q (l.take i)).length + 1 := by
  have e : stay q (l.take (i + 1)) = stay q (l.take i) ++ [l.getD i Ent.zero] := by
    rw [take_snoc l i hi, stay_snoc, h]
    rfl
  have e2 := stay_split q l (i + 1)
  rw [e] at e2
  refine ⟨by rw [e2]; simp, ?_, by rw [e]; simp⟩
  rw [e2]
  simp
theorem stay_same {q : Ent → Bool} {l : List Ent} {i : Nat} (hi : i < l.length) (h : q (l.getD i Ent.zero) = true) : stay q (l.take (i + 1)) = stay q (l.take i) := by
  rw [take_snoc l i hi, stay_snoc, h]
  simp

set_option maxRecDepth 100000 in
set_option maxHeartbeats 8000000 in
theorem walk_tlbDrops (ao : Option Addr) (len cap : Nat) (D : Nat → Ent) (asid page : Int) (space : Bool) (w : World) (hm : len ≤ maxLen) (hL : Lst Ent.cells Ent.ok 6 w ao len D) (_ha : -9223372036854775808 ≤ asid ∧ asid ≤ 9223372036854775807) (_hp : -9223372036854775808 ≤ page ∧ page ≤ 9223372036854775807) :
    Calls Try.prog 9 #[.slice ao len cap, .int .i64 asid, .int .i64 page, .bool space] w fun e w' => e = .returned (.bool true) ∧ Below w.heap.size w w' := by
  have hm' : len ≤ 9223372036854775807 := by unfold maxLen at hm; omega
  have HLst : Hid (Lst Ent.cells Ent.ok 6 w ao len D) := hL
  clear hL hm
  go_enter Try.func9, Try.ntmps9
  go_wp2_with fail
  refine (up_any _).mono ?_
  rintro e w1 ⟨rfl, L1⟩
  go_wp2_with fail
  refine (new_any _).mono ?_
  rintro e w2 ⟨rfl, b2, hb⟩
  have L2 := below_call' L1 hb
  have H2 : Hid (Buf w.heap.size w2 w1.heap.size (.slice none 0 0) [] false ∧ Below w.heap.size w w2) := ⟨b2.lower L1.size, L2⟩
  clear b2 hb L2 L1
  generalize w1.heap.size = p at *
  go_wp2_with fail
  go_loopw [11] (fun i W => ∃ j : Nat, j ≤ len ∧ j ≤ 80 ∧ i = .int .i64 j ∧ Hid (∃ v, Buf w.heap.size W p v (fN D j).1 (fN D j).2 ∧ Below w.heap.size w W)) (fun i _ => len - (intOf i).toNat)
  case atStart => exact ⟨0, Nat.zero_le _, by omega, rfl, _, H2.out⟩
  case round =>
    obtain ⟨j, hj, hj8, rfl, HB⟩ := hrel
    clear H2
    by_cases hlt : j < len ∧ j < 80
    · obtain ⟨h1, h2⟩ := hlt
      have h1z : (j : Int) < (len : Int) := by omega
      have h2z : (j : Int) < 80 := by omega
      obtain ⟨v, b, L⟩ := HB.out
      obtain ⟨g, off, rfl, hok, c0, c1, c2, c3, c4, c5⟩ := lst_ent HLst.out L h1
      have hF := fill_any b L.size (D j) hok
      have HS : Hid (Buf w.heap.size wr p v (fN D j).1 (fN D j).2 ∧ Below w.heap.size w wr) := ⟨b, L⟩
      clear b L HB
      unfold ev at hF
      go_wp2_with fail
      refine hF.mono ?_
      rintro e w3 ⟨rfl, v3, b3, S3⟩
      have H3 : Hid (∃ v, Buf w.heap.size w3 p v (fN D (j + 1)).1 (fN D (j + 1)).2 ∧ Below w.heap.size w w3) := ⟨v3, b3, HS.out.2.trans (S3.below HS.out.1 HS.out.2.size)⟩
      clear b3 S3 HS hF c0 c1 c2 c3 c4 c5
      go_wp2
      go_roundw
      case rel => exact ⟨j + 1, by omega, by omega, by go_num, H3⟩
      case measure => simp [intOf]; omega
    · have hx : (¬ (j : Int) < (len : Int)) ∨ ((j : Int) < (len : Int) ∧ ¬ (j : Int) < 80) := by omega
      clear hlt hj hj8
      obtain ⟨v, b, L⟩ := HB.out
      clear HB
      generalize (fN D j).1 = l at *
      generalize (fN D j).2 = k at *
      have hE := entries_any b
      have HS : Hid (Buf w.heap.size wr p v l k ∧ Below w.heap.size w wr) := ⟨b, L⟩
      have h64 := b.len
      clear b L HLst
      rcases hx with h1 | ⟨h1, h2⟩
      all_goals
        go_wp2_with fail
        refine hE.mono ?_
        rintro e w3 ⟨v1, rfl, O1, hb⟩
        obtain ⟨b, L⟩ := HS.out
        have b3 := b.below hb
        have L3 := below_call L L.size hb
        have hap := O1.apart b (Nat.le_refl _)
        obtain ⟨q, HQ⟩ : ∃ q, Hid (q = goB space asid page) := ⟨_, rfl⟩
        have hGo : Calls Try.prog (if space then 22 else 20) (if space then #[.pointer (some ⟨p, 0, none⟩), .int .i64 asid] else #[.pointer (some ⟨p, 0, none⟩), .int .i64 asid, .int .i64 page]) w3 (LetPost w.heap.size w3 p v (stay q l) k (.tuple #[])) := by
          rw [HQ.out]
          cases space
          · exact page_any b3 asid page
          · exact space_any b3 asid
        obtain ⟨a1, c1, rfl⟩ := O1.form
        have H3 : Hid (Buf w.heap.size w3 p v l k ∧ Below w.heap.size w w3 ∧ Own wr.heap.size w3 (.slice a1 l.length c1) l ∧ (∀ g, (Value.slice a1 l.length c1).ownBlock = some g → g ≠ p ∧ some g ≠ v.ownBlock)) := ⟨b3, L3, O1, hap⟩
        clear b L b3 L3 hap O1 HS hb hE
        cases space
        · simp only [if_false, Bool.false_eq_true] at hGo
          go_wp2_with fail
          refine hGo.mono ?_
          rintro e w5 ⟨rfl, v5, b5, S5⟩
          obtain ⟨b3, L3, O3, hap⟩ := H3.out
          have O5 := O3.step S5 hap
          have L5 := L3.trans (S5.below b3 L3.size)
          have hE := entries_any b5
          have H5 : Hid (Below w.heap.size w w5 ∧ Own wr.heap.size w5 (.slice a1 l.length c1) l ∧ (∀ x ∈ l, mayB x = true ∧ x.base ≤ 9223372036854775807)) := ⟨L5, O5, b3.may⟩
          clear b3 L3 O3 hap O5 L5 H3 hGo S5 b5
          go_wp2_with fail
          refine hE.mono ?_
          rintro e w6 ⟨v6, rfl, O6, hb⟩
          obtain ⟨L5, O5, hmay⟩ := H5.out
          have L6 := below_call L5 L5.size hb
          have O5' := O5.below hb
          obtain ⟨a6, c6, rfl⟩ := O6.form
          have H6 : Hid (Below w.heap.size w w6 ∧ Own wr.heap.size w6 (.slice a1 l.length c1) l ∧ Own w5.heap.size w6 (.slice a6 (stay q l).length c6) (stay q l) ∧ (∀ x ∈ l, mayB x = true ∧ x.base ≤ 9223372036854775807)) := ⟨L6, O5', O6, hmay⟩
          have hsl := stay_len q l
          clear L5 O5 hmay L6 O5' O6 hb H5 hE
          go_wp2_with fail
          go_loopw [14, 15, 16] (fun nv i _ W => ∃ m : Nat, m ≤ l.length ∧ i = .int .i64 m ∧ nv = .int .i64 (stay q (l.take m)).length ∧ Hid (Below w6.heap.size w6 W)) (fun _ i _ _ => l.length - (intOf i).toNat)
          case atStart => exact ⟨0, Nat.zero_le _, rfl, rfl, Below.refl _ _⟩
          case round =>
            obtain ⟨m, hm, rfl, rfl, HI⟩ := hrel
            obtain ⟨L6, O5, O6, hmay⟩ := H6.out
            by_cases hlt : m < l.length
            · have hltz : (m : Int) < (l.length : Int) := by omega
              obtain ⟨g, rfl, -, x0, x1, x2, x3, x4, x5⟩ := (O5.below HI.out).at hlt
              have hg := own_lt (O5.below HI.out) g rfl
              have hI := fun w => Is_any (l.getD m Ent.zero) asid page w (hmay _ (mem_getD l m hlt)).1
              have HSM : Hid _ := stay_same (q := q) hlt
              have hnext := stay_next (q := q) hlt
              have hlen : (stay q (l.take m)).length ≤ l.length := Nat.le_trans (stay_len _ _) (by simp; omega)
              have HQX : Hid (isB (l.getD m Ent.zero) asid page = q (l.getD m Ent.zero)) := by rw [HQ.out]; rfl
              cases hqx : q (l.getD m Ent.zero) with
              | true =>
                have HSM2 : Hid (stay q (l.take (m + 1)) = stay q (l.take m)) := HSM.out hqx
                have hv := HQX.out
                rw [hqx] at hv
                clear hnext HSM O5 O6 hmay L6 hqx HQX
                generalize l.getD m Ent.zero = x at *
                rw [hv] at hI
                clear hv
                unfold ev at hI
                go_wp2_with fail
                refine (hI _).mono ?_
                rintro e w7 ⟨rfl, hb⟩
                have H7 : Hid (Below w6.heap.size w6 w7) := HI.out.trans (hb.mono HI.out.size)
                have y0 : w7.cell? ⟨g, m * 6, none⟩ = some (.int .i64 x.asid) := ((bcell hb).1 _ _ hg).trans x0
                clear hb x0 x1 x2 x3 x4 x5 hI
                go_wp2
                go_roundw
                case rel => exact ⟨m + 1, by omega, by go_num, by rw [HSM2.out], H7⟩
                case measure => simp [intOf]; omega
              | false =>
                obtain ⟨n1, n2, n3⟩ := hnext hqx
                obtain ⟨g6, rfl, -, z0, z1, z2, z3, z4, z5⟩ := (O6.below HI.out).at n1
                rw [n2] at z0 z1 z2 z3 z4 z5
                have hg6 := own_lt (O6.below HI.out) g6 rfl
                have hv := HQX.out
                rw [hqx] at hv
                have HN3 : Hid ((stay q (l.take (m + 1))).length = (stay q (l.take m)).length + 1) := n3
                have hn := neq_ent (l.getD m Ent.zero) (l.getD m Ent.zero)
                rw [eqE_self] at hn
                have HNZ : Hid (((stay q (l.take m)).length : Int) < ((stay q l).length : Int)) := by show _ < _; omega
                clear n1 n2 n3 HSM O5 O6 hmay L6 hqx HQX hnext
                generalize l.getD m Ent.zero = x at *
                generalize hnn : (stay q (l.take m)).length = n at *
                have HNN : Hid (n = (stay q (l.take m)).length) := hnn.symm
                clear hnn
                rw [hv] at hI
                clear hv
                unfold ev at hI hn
                simp only [Bool.not_true] at hn
                go_wp2_with fail
                refine (hI _).mono ?_
                rintro e w7 ⟨rfl, hb⟩
                have H7 : Hid (Below w6.heap.size w6 w7) := HI.out.trans (hb.mono HI.out.size)
                have y0 : w7.cell? ⟨g, m * 6, none⟩ = some (.int .i64 x.asid) := ((bcell hb).1 _ _ hg).trans x0
                have y1 : w7.cell? ⟨g, m * 6 + 1, none⟩ = some (.int .i64 x.first) := ((bcell hb).1 _ _ hg).trans x1
                have y2 : w7.cell? ⟨g, m * 6 + 2, none⟩ = some (.int .i64 x.order) := ((bcell hb).1 _ _ hg).trans x2
                have y3 : w7.cell? ⟨g, m * 6 + 3, none⟩ = some (.int .i64 x.base) := ((bcell hb).1 _ _ hg).trans x3
                have y4 : w7.cell? ⟨g, m * 6 + 4, none⟩ = some (.bool x.writ) := ((bcell hb).1 _ _ hg).trans x4
                have y5 : w7.cell? ⟨g, m * 6 + 5, none⟩ = some (.bool x.exe) := ((bcell hb).1 _ _ hg).trans x5
                have r0 : w7.cell? ⟨g6, n * 6, none⟩ = some (.int .i64 x.asid) := ((bcell hb).1 _ _ hg6).trans z0
                have r1 : w7.cell? ⟨g6, n * 6 + 1, none⟩ = some (.int .i64 x.first) := ((bcell hb).1 _ _ hg6).trans z1
                have r2 : w7.cell? ⟨g6, n * 6 + 2, none⟩ = some (.int .i64 x.order) := ((bcell hb).1 _ _ hg6).trans z2
                have r3 : w7.cell? ⟨g6, n * 6 + 3, none⟩ = some (.int .i64 x.base) := ((bcell hb).1 _ _ hg6).trans z3
                have r4 : w7.cell? ⟨g6, n * 6 + 4, none⟩ = some (.bool x.writ) := ((bcell hb).1 _ _ hg6).trans z4
                have r5 : w7.cell? ⟨g6, n * 6 + 5, none⟩ = some (.bool x.exe) := ((bcell hb).1 _ _ hg6).trans z5
                clear hb x0 x1 x2 x3 x4 x5 z0 z1 z2 z3 z4 z5 hI
                go_wp2_with fail
                have hge : decide ((stay q l).length ≤ n) = false := by have := HNZ.out; simp; omega
                have hnz := HNZ.out
                go_quiet (fail)
                go_wp2
                go_roundw
                case rel => exact ⟨m + 1, by omega, by go_num, by rw [HN3.out]; go_num, below_drewN H7.out _⟩
                case measure => simp [intOf]; omega
            · obtain rfl : m = l.length := by omega
              have hltz : ¬ (l.length : Int) < (l.length : Int) := by omega
              have HL : Hid (Below w.heap.size w wr) := below_call L6 L6.size HI.out
              have hst : (stay q (l.take l.length)).length = (stay q l).length := by rw [List.take_length]
              clear O5 O6 hmay L6 H6 HI
              rw [hst]
              clear hst
              go_wp2
              go_ret
              exact ⟨ret_bool (by simp), HL.out⟩
        · simp only [if_true] at hGo
          go_wp2_with fail
          refine hGo.mono ?_
          rintro e w5 ⟨rfl, v5, b5, S5⟩
          obtain ⟨b3, L3, O3, hap⟩ := H3.out
          have O5 := O3.step S5 hap
          have L5 := L3.trans (S5.below b3 L3.size)
          have hE := entries_any b5
          have H5 : Hid (Below w.heap.size w w5 ∧ Own wr.heap.size w5 (.slice a1 l.length c1) l ∧ (∀ x ∈ l, mayB x = true ∧ x.base ≤ 9223372036854775807)) := ⟨L5, O5, b3.may⟩
          clear b3 L3 O3 hap O5 L5 H3 hGo S5 b5
          go_wp2_with fail
          refine hE.mono ?_
          rintro e w6 ⟨v6, rfl, O6, hb⟩
          obtain ⟨L5, O5, hmay⟩ := H5.out
          have L6 := below_call L5 L5.size hb
          have O5' := O5.below hb
          obtain ⟨a6, c6, rfl⟩ := O6.form
          have H6 : Hid (Below w.heap.size w w6 ∧ Own wr.heap.size w6 (.slice a1 l.length c1) l ∧ Own w5.heap.size w6 (.slice a6 (stay q l).length c6) (stay q l) ∧ (∀ x ∈ l, mayB x = true ∧ x.base ≤ 9223372036854775807)) := ⟨L6, O5', O6, hmay⟩
          have hsl := stay_len q l
          clear L5 O5 hmay L6 O5' O6 hb H5 hE
          go_wp2_with fail
          go_loopw [14, 15, 16] (fun nv i _ W => ∃ m : Nat, m ≤ l.length ∧ i = .int .i64 m ∧ nv = .int .i64 (stay q (l.take m)).length ∧ Hid (Below w6.heap.size w6 W)) (fun _ i _ _ => l.length - (intOf i).toNat)
          case atStart => exact ⟨0, Nat.zero_le _, rfl, rfl, Below.refl _ _⟩
          case round =>
            obtain ⟨m, hm, rfl, rfl, HI⟩ := hrel
            obtain ⟨L6, O5, O6, hmay⟩ := H6.out
            by_cases hlt : m < l.length
            · have hltz : (m : Int) < (l.length : Int) := by omega
              obtain ⟨g, rfl, -, x0, x1, x2, x3, x4, x5⟩ := (O5.below HI.out).at hlt
              have hg := own_lt (O5.below HI.out) g rfl
              have hI := fun w => Is_any (l.getD m Ent.zero) asid page w (hmay _ (mem_getD l m hlt)).1
              have HSM : Hid _ := stay_same (q := q) hlt
              have hnext := stay_next (q := q) hlt
              have hlen : (stay q (l.take m)).length ≤ l.length := Nat.le_trans (stay_len _ _) (by simp; omega)
              have HQX : Hid (((l.getD m Ent.zero).asid == asid) = q (l.getD m Ent.zero)) := by rw [HQ.out]; rfl
              cases hqx : q (l.getD m Ent.zero) with
              | true =>
                have HSM2 : Hid (stay q (l.take (m + 1)) = stay q (l.take m)) := HSM.out hqx
                have hv := HQX.out
                rw [hqx] at hv
                clear hnext HSM O5 O6 hmay L6 hqx HQX
                generalize l.getD m Ent.zero = x at *
                generalize isB x asid page = r1 at hI
                unfold ev at hI
                go_wp2_with fail
                refine (hI _).mono ?_
                rintro e w7 ⟨rfl, hb⟩
                have H7 : Hid (Below w6.heap.size w6 w7) := HI.out.trans (hb.mono HI.out.size)
                have y0 : w7.cell? ⟨g, m * 6, none⟩ = some (.int .i64 x.asid) := ((bcell hb).1 _ _ hg).trans x0
                clear hb x0 x1 x2 x3 x4 x5 hI
                go_wp2
                go_roundw
                case rel => exact ⟨m + 1, by omega, by go_num, by rw [HSM2.out], H7⟩
                case measure => simp [intOf]; omega
              | false =>
                obtain ⟨n1, n2, n3⟩ := hnext hqx
                obtain ⟨g6, rfl, -, z0, z1, z2, z3, z4, z5⟩ := (O6.below HI.out).at n1
                rw [n2] at z0 z1 z2 z3 z4 z5
                have hg6 := own_lt (O6.below HI.out) g6 rfl
                have hv := HQX.out
                rw [hqx] at hv
                have HN3 : Hid ((stay q (l.take (m + 1))).length = (stay q (l.take m)).length + 1) := n3
                have hn := neq_ent (l.getD m Ent.zero) (l.getD m Ent.zero)
                rw [eqE_self] at hn
                have HNZ : Hid (((stay q (l.take m)).length : Int) < ((stay q l).length : Int)) := by show _ < _; omega
                clear n1 n2 n3 HSM O5 O6 hmay L6 hqx HQX hnext
                generalize l.getD m Ent.zero = x at *
                generalize hnn : (stay q (l.take m)).length = n at *
                have HNN : Hid (n = (stay q (l.take m)).length) := hnn.symm
                clear hnn
                generalize isB x asid page = r1 at hI
                unfold ev at hI hn
                simp only [Bool.not_true] at hn
                go_wp2_with fail
                refine (hI _).mono ?_
                rintro e w7 ⟨rfl, hb⟩
                have H7 : Hid (Below w6.heap.size w6 w7) := HI.out.trans (hb.mono HI.out.size)
                have y0 : w7.cell? ⟨g, m * 6, none⟩ = some (.int .i64 x.asid) := ((bcell hb).1 _ _ hg).trans x0
                have y1 : w7.cell? ⟨g, m * 6 + 1, none⟩ = some (.int .i64 x.first) := ((bcell hb).1 _ _ hg).trans x1
                have y2 : w7.cell? ⟨g, m * 6 + 2, none⟩ = some (.int .i64 x.order) := ((bcell hb).1 _ _ hg).trans x2
                have y3 : w7.cell? ⟨g, m * 6 + 3, none⟩ = some (.int .i64 x.base) := ((bcell hb).1 _ _ hg).trans x3
                have y4 : w7.cell? ⟨g, m * 6 + 4, none⟩ = some (.bool x.writ) := ((bcell hb).1 _ _ hg).trans x4
                have y5 : w7.cell? ⟨g, m * 6 + 5, none⟩ = some (.bool x.exe) := ((bcell hb).1 _ _ hg).trans x5
                have r0 : w7.cell? ⟨g6, n * 6, none⟩ = some (.int .i64 x.asid) := ((bcell hb).1 _ _ hg6).trans z0
                have r1 : w7.cell? ⟨g6, n * 6 + 1, none⟩ = some (.int .i64 x.first) := ((bcell hb).1 _ _ hg6).trans z1
                have r2 : w7.cell? ⟨g6, n * 6 + 2, none⟩ = some (.int .i64 x.order) := ((bcell hb).1 _ _ hg6).trans z2
                have r3 : w7.cell? ⟨g6, n * 6 + 3, none⟩ = some (.int .i64 x.base) := ((bcell hb).1 _ _ hg6).trans z3
                have r4 : w7.cell? ⟨g6, n * 6 + 4, none⟩ = some (.bool x.writ) := ((bcell hb).1 _ _ hg6).trans z4
                have r5 : w7.cell? ⟨g6, n * 6 + 5, none⟩ = some (.bool x.exe) := ((bcell hb).1 _ _ hg6).trans z5
                clear hb x0 x1 x2 x3 x4 x5 z0 z1 z2 z3 z4 z5 hI
                go_wp2_with fail
                have hge : decide ((stay q l).length ≤ n) = false := by have := HNZ.out; simp; omega
                have hnz := HNZ.out
                go_quiet (fail)
                go_wp2
                go_roundw
                case rel => exact ⟨m + 1, by omega, by go_num, by rw [HN3.out]; go_num, below_drewN H7.out _⟩
                case measure => simp [intOf]; omega
            · obtain rfl : m = l.length := by omega
              have hltz : ¬ (l.length : Int) < (l.length : Int) := by omega
              have HL : Hid (Below w.heap.size w wr) := below_call L6 L6.size HI.out
              have hst : (stay q (l.take l.length)).length = (stay q l).length := by rw [List.take_length]
              clear O5 O6 hmay L6 H6 HI
              rw [hst]
              clear hst
              go_wp2
              go_ret
              exact ⟨ret_bool (by simp), HL.out⟩
end Go.Proofs.Ytpkagigjcnjlpaa
