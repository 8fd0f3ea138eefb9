/- tlb.Fill: one that is not held. -/
import Derived.Test.YtpkagigjcnjlpaaEFill
import Derived.Deep.RegionLaw
namespace Go.Proofs.Ytpkagigjcnjlpaa
open Go.RowKit

theorem clashes_snoc (l : List Ent) (x y : Ent) : clashes (l ++ [y]) x = (clashes l x || clashB y x) := by simp [clashes]
theorem own_lt {B : Nat} {w : World} {v : Value} {l : List Ent} (h : Own B w v l) (g : Nat) (hg : v.ownBlock = some g) : g < w.heap.size := (World.ownsRow.lt h g hg).2

/-- The row of a buffer behind an append. -/
theorem Buf.append {B : Nat} {w W w1 : World} {p : Nat} {v v' : Value} {l : List Ent} {x : Ent} {k : Bool} (b : Buf B w p v l k) (hW : Below w.heap.size w W) (hl : l.length < 64) (hx : mayB x = true ∧ x.base ≤ 9223372036854775807) {g c : Nat} (he : v' = .slice (some ⟨g, 0, none⟩) (l.length + 1) c) (ho : w1.ownsRow B 26 6 v' (l.length + 1) (ecs l ++ (ecells x).toList)) (hg : W.grownBy w1 v.ownBlock) (hat : v.ownBlock = some g ∨ g = W.heap.size) :
    Buf B (w1.setCell ⟨p, 0, none⟩ v') p v' (l ++ [x]) k ∧ Step w (w1.setCell ⟨p, 0, none⟩ v') p v v' := by
  have bW := b.below hW
  have hp : Laid w1 p 62 #[v, .bool k] := bW.ptr.kept hg b.apart
  have hpW := bW.ptr.lt
  have h2 := grown_set w1 p 0 v'
  have hpg : p ≠ g := by
    rcases hat with h | h
    · exact own_slice_ne b h
    · omega
  refine ⟨⟨b.base, ?_, ?_, by simp; omega, ?_⟩, ?_⟩
  · have := heap_setCell_same w1 p 0 _ _ v' hp
    simpa [Laid] using this
  · have h3 : Own B w1 v' (l ++ [x]) := by
      unfold Own
      rw [ecs_snoc]
      simpa using ho
    refine h3.kept h2 (Or.inr ?_)
    rw [he]
    simp [Value.ownBlock]
    exact fun e => hpg e.symm
  · intro y hy
    rcases List.mem_append.1 hy with h | h
    · exact b.may y h
    · simp at h
      rw [h]
      exact hx
  · refine ⟨h2.os.trans (hg.os.trans hW.os), h2.tape.trans (hg.tape.trans hW.tape), h2.output.trans (hg.output.trans hW.output), Nat.le_trans hW.size (Nat.le_trans hg.size h2.size), fun q hq hp' hv => ?_, ?_⟩
    · exact (h2.block q (Nat.lt_of_lt_of_le hq (Nat.le_trans hW.size hg.size)) (by simpa using hp')).trans ((hg.block q (Nat.lt_of_lt_of_le hq hW.size) hv).trans (hW.block q hq))
    · rw [he]
      rcases hat with h | h
      · exact Or.inl h.symm
      · refine Or.inr fun g' hg' => ?_
        simp [Value.ownBlock] at hg'
        have := hW.size
        omega

set_option maxRecDepth 100000 in
set_option maxHeartbeats 4000000 in
theorem fill_new {B : Nat} {w : World} {p : Nat} {v : Value} {l : List Ent} {k : Bool} (b : Buf B w p v l k) (hBw : B ≤ w.heap.size) (x : Ent) (hm : mayB x = true) (hxb : x.base ≤ 9223372036854775807) (hh : hasB l x = false) :
    Calls Try.prog 17 #[.pointer (some ⟨p, 0, none⟩), ev x] w (LetPost B w p v (cut64 l ++ [x]) (k || clashes (cut64 l) x) .nilIface) := by
  obtain ⟨i0, hi0, hz0, hz1, hz2⟩ := info_parts info_ent
  have hM := mayBe_any x
  rw [hm] at hM
  have hpw := b.ptr.lt
  have hvw := own_lt b.row
  have hlen := b.len
  have B1 : Below w.heap.size w (w.alloc (.cells (ecells x) 26)) := (Below.refl _ _).alloc (Nat.le_refl _) _
  have X1 := Laid.new w 26 (ecells x)
  have b1 := b.below B1
  have H1 : Hid (Below w.heap.size w (w.alloc (.cells (ecells x) 26)) ∧ Laid (w.alloc (.cells (ecells x) 26)) w.heap.size 26 (ecells x) ∧ Buf B (w.alloc (.cells (ecells x) 26)) p v l k) := ⟨B1, X1, b1⟩
  obtain ⟨ao, c, rfl⟩ := b.row.form
  clear B1 X1 b1 b
  unfold ev at *
  go_enter Try.func17, Try.ntmps17
  go_wp2_with fail
  refine (hM _).mono ?_
  rintro e w1 ⟨rfl, hb⟩
  obtain ⟨B1, X1, b1⟩ := H1.out
  have L1 := below_call B1 (by simp) hb
  have b2 := b1.below hb
  have X2 := X1.below hb
  obtain ⟨x0, x1, x2, x3, x4, x5⟩ := X2.ent
  obtain ⟨b0, -⟩ := b2.cells
  have hC := contains_any (w := w1.drew) (B := B) (v := .slice ao l.length c) (l := l) b2.row b2.len x
  rw [hh] at hC
  have hlt : w.heap.size < w1.heap.size := X2.lt
  have hpl := b2.ptr.lt
  have H2 : Hid (Below w.heap.size w w1 ∧ Laid w1 w.heap.size 26 (ecells x) ∧ Buf B w1 p (.slice ao l.length c) l k) := ⟨L1, X2, b2⟩
  clear hb b1 B1 X1 b2 H1 hM X2 L1
  unfold ev at hC
  go_wp2_with fail
  go_region_held3 (fun w' => w'.cell? ⟨p, 0, none⟩ = some (.slice ao l.length c) ∧ w'.cell? ⟨w.heap.size, 0, none⟩ = some (.int .i64 x.asid) ∧ w'.cell? ⟨w.heap.size, 1, none⟩ = some (.int .i64 x.first) ∧ w'.cell? ⟨w.heap.size, 2, none⟩ = some (.int .i64 x.order) ∧ w'.cell? ⟨w.heap.size, 3, none⟩ = some (.int .i64 x.base) ∧ w'.cell? ⟨w.heap.size, 4, none⟩ = some (.bool x.writ) ∧ w'.cell? ⟨w.heap.size, 5, none⟩ = some (.bool x.exe)) (go_keep) (first | (go_at_call 33; refine hC.mono ?_; rintro e w2 ⟨rfl, hb2⟩; have hc2 : ∀ o, w2.cell? ⟨w.heap.size, o, none⟩ = w1.cell? ⟨w.heap.size, o, none⟩ := fun o => (bcell hb2).1 _ _ hlt; have hc3 : ∀ o, w2.cell? ⟨p, o, none⟩ = w1.cell? ⟨p, o, none⟩ := fun o => (bcell hb2).1 _ _ hpl))
  have hb3 : Below w1.heap.size w1 w2 := ⟨hb2.os, hb2.tape, hb2.output, hb2.size, hb2.block⟩
  obtain ⟨L1, X1, b1⟩ := H2.out
  have L2 := below_call L1 L1.size hb3
  have X2 := X1.below hb3
  have b2 := b1.below hb3
  clear x0 x1 x2 x3 x4 x5 b0 hC hlt hpl H2 hb2 hc2 hc3 hb3 L1 X1 b1 hh
  obtain ⟨b0, -⟩ := b2.cells
  have hz : w2.frozen? ⟨p, 0, none⟩ = false := b2.ptr.frozen 0
  by_cases h64 : l.length = 64
  · rcases b2.row.cases' with ⟨_, hnil⟩ | ⟨g, c', cur, hv, hB0, hg0, hg, hlc, hcm, hs, hd⟩
    · rw [hnil] at h64
      simp at h64
    obtain ⟨rfl, rfl⟩ : ao = some ⟨g, 0, none⟩ ∧ c' = c := by cases hv; exact ⟨rfl, rfl⟩
    have hD := delete_any b2.row 0 (by omega) b2.len
    have hgw := hvw g rfl
    have hne := own_slice_ne b2 rfl
    have hcu : cut64 l = without l 0 := by simp [cut64, h64]
    have hwl := without_len l 0 (by omega)
    have hll : (without l 0).length ≤ 63 := by omega
    have hwm : ∀ y ∈ without l 0, y ∈ l := fun y hy => without_mem hy
    generalize without l 0 = l3 at *
    have HCU : Hid (cut64 l = l3) := hcu
    have hpl := b2.ptr.lt
    have H2 : Hid (Laid w2 w.heap.size 26 (ecells x) ∧ Buf B w2 p (.slice (some ⟨g, 0, none⟩) l.length c') l k ∧ Below w.heap.size w w2) := ⟨X2, b2, L2⟩
    have h64z : ((l.length : Int) == 64) = true := by simp; omega
    clear hv hg hd hs hcm hlc hcu hwl X2 b2 L2 hvw h64
    go_wp2_with fail
    refine hD.mono ?_
    rintro e w3 ⟨rfl, hO, hgr⟩
    obtain ⟨X2, b2, L2⟩ := H2.out
    have c0 : w3.cell? ⟨p, 0, none⟩ = some (.slice (some ⟨g, 0, none⟩) l.length c') := hgr.cell b0 (by simpa using hne)
    have z0 : w3.frozen? ⟨p, 0, none⟩ = false := (hgr.frozen_far ⟨p, 0, none⟩ hpl (by simpa using hne)).trans hz
    have X := b2.store hgr hO rfl (by omega) (fun y hy => b2.may y (hwm y hy))
    have H3 : Hid (Laid (w3.setCell ⟨p, 0, none⟩ (.slice (some ⟨g, 0, none⟩) l3.length c')) w.heap.size 26 (ecells x) ∧ Buf B (w3.setCell ⟨p, 0, none⟩ (.slice (some ⟨g, 0, none⟩) l3.length c')) p (.slice (some ⟨g, 0, none⟩) l3.length c') l3 k ∧ Step w (w3.setCell ⟨p, 0, none⟩ (.slice (some ⟨g, 0, none⟩) l3.length c')) p (.slice (some ⟨g, 0, none⟩) l.length c') (.slice (some ⟨g, 0, none⟩) l3.length c')) :=
      ⟨X2.step X.2 (by omega) (by simp [Value.ownBlock]; omega), X.1, (Step.of_below L2 p _).trans X.2⟩
    clear X hO hgr b0 hz hD X2 b2 L2 H2
    go_wp2_with fail
    go_loopw [6, 36] (fun _ i W => ∃ j : Nat, j ≤ l3.length ∧ i = .int .i64 j ∧ Hid (Laid W w.heap.size 26 (ecells x)) ∧ Hid (Buf B W p (.slice (some ⟨g, 0, none⟩) l3.length c') l3 (k || clashes (l3.take j) x)) ∧ Hid (Step w W p (.slice (some ⟨g, 0, none⟩) l.length c') (.slice (some ⟨g, 0, none⟩) l3.length c'))) (fun _ i _ => l3.length - (intOf i).toNat)
    case atStart => exact ⟨0, Nat.zero_le _, rfl, H3.out.1, by simpa [clashes, Hid] using H3.out.2.1, H3.out.2.2⟩
    case round =>
      obtain ⟨j, hj, rfl, hX, hB, hSt⟩ := hrel
      obtain ⟨x0, x1, x2, x3, x4, x5⟩ := hX.out.ent
      have hlx := hX.out.lt
      have hpr := hB.out.ptr.lt
      by_cases hlt : j < l3.length
      · have hltz : (j : Int) < (l3.length : Int) := by omega
        rcases hB.out.row.cases' with ⟨_, h0⟩ | ⟨g', c'', cur, hv, _, hg0, hg, hlc, hcm, hs, hd⟩
        · rw [h0] at hlt
          simp at hlt
        obtain rfl : g = g' := by cases hv; rfl
        obtain ⟨c0, c1, c2, c3, c4, c5⟩ := head_cells (w := wr) hg (hd j hlt)
        have hC := fun w => clash_any (l3.getD j Ent.zero) x w (hB.out.may _ (mem_getD l3 j hlt)).1 hm
        have htk := take_snoc l3 j hlt
        have B4 : Below wr.heap.size wr (wr.alloc (.cells (ecells (l3.getD j Ent.zero)) 26)) := (Below.refl _ _).alloc (Nat.le_refl _) _
        have X4 := hX.out.below B4
        have b4 := hB.out.below B4
        have S4 := hSt.out.trans (Step.of_below B4 p (.slice (some ⟨g, 0, none⟩) l3.length c'))
        generalize l3.getD j Ent.zero = y at *
        have HT : Hid (clashes (l3.take (j + 1)) x = (clashes (l3.take j) x || clashB y x)) := by rw [htk]; exact clashes_snoc _ _ _
        have H4 : Hid (Laid (wr.alloc (.cells (ecells y) 26)) w.heap.size 26 (ecells x) ∧ Buf B (wr.alloc (.cells (ecells y) 26)) p (.slice (some ⟨g, 0, none⟩) l3.length c') l3 (k || clashes (l3.take j) x) ∧ Step w (wr.alloc (.cells (ecells y) 26)) p (.slice (some ⟨g, 0, none⟩) l.length c') (.slice (some ⟨g, 0, none⟩) l3.length c')) := ⟨X4, b4, S4⟩
        clear htk B4 X4 b4 S4 hX hB hSt hv hg hlc hcm hs hd H3
        have hne1 : w.heap.size ≠ wr.heap.size := by omega
        unfold ev at hC
        cases hq : clashB y x with
        | false =>
          rw [hq] at hC HT
          clear hq
          go_wp2_with fail
          refine (hC _).mono ?_
          rintro e w4 ⟨rfl, hb⟩
          obtain ⟨X4, b4, S4⟩ := H4.out
          have H5 : Hid (Laid w4 w.heap.size 26 (ecells x) ∧ Buf B w4 p (.slice (some ⟨g, 0, none⟩) l3.length c') l3 (k || clashes (l3.take j) x) ∧ Step w w4 p (.slice (some ⟨g, 0, none⟩) l.length c') (.slice (some ⟨g, 0, none⟩) l3.length c')) := ⟨X4.below hb, b4.below hb, S4.trans (Step.of_below hb p (.slice (some ⟨g, 0, none⟩) l3.length c'))⟩
          clear hb X4 b4 S4 H4 c0 c1 c2 c3 c4 c5 x0 x1 x2 x3 x4 x5 hC
          go_wp2
          go_roundw
          case rel => exact ⟨j + 1, by omega, by go_num, H5.out.1, by
            show Buf _ _ _ _ _ _
            rw [HT.out, Bool.or_false]
            exact H5.out.2.1, H5.out.2.2⟩
          case measure => simp [intOf]; omega
        | true =>
          rw [hq] at hC HT
          clear hq
          go_wp2_with fail
          refine (hC _).mono ?_
          rintro e w4 ⟨rfl, hb⟩
          obtain ⟨X4, b4, S4⟩ := H4.out
          have b5 := b4.below hb
          obtain ⟨-, p1⟩ := b5.cells
          have z1 := b5.ptr.frozen 1
          have H5 : Hid (Laid w4 w.heap.size 26 (ecells x) ∧ Buf B w4 p (.slice (some ⟨g, 0, none⟩) l3.length c') l3 (k || clashes (l3.take j) x) ∧ Step w w4 p (.slice (some ⟨g, 0, none⟩) l.length c') (.slice (some ⟨g, 0, none⟩) l3.length c')) := ⟨X4.below hb, b5, S4.trans (Step.of_below hb p (.slice (some ⟨g, 0, none⟩) l3.length c'))⟩
          clear hb X4 b4 b5 S4 H4 c0 c1 c2 c3 c4 c5 x0 x1 x2 x3 x4 x5 hC
          go_wp2
          obtain ⟨X5, b5, S5⟩ := H5.out
          have b6 := b5.break
          go_roundw
          case rel => exact ⟨j + 1, by omega, by go_num, X5.kept (grown_set w4 p 1 (.bool true)) (by simp; omega), by
            show Buf _ _ _ _ _ _
            rw [HT.out, Bool.or_true, Bool.or_true]
            exact b6.1, S5.trans b6.2⟩
          case measure => simp [intOf]; omega
      · obtain rfl : j = l3.length := by omega
        have hltz : ¬ (l3.length : Int) < (l3.length : Int) := by omega
        obtain ⟨b0, -⟩ := hB.out.cells
        have hz := hB.out.ptr.frozen 0
        have hap := hB.out.apart
        have hsz := hSt.out.size
        clear H3
        go_wp2_with fail
        have hrow := hB.out.row
        have B7 : Below wr.heap.size wr (wr.drew.alloc (.cells (ecells x) 26)) := ((Below.refl wr.heap.size wr).drew).alloc (Nat.le_refl _) _
        have O7 : Hid ((wr.drew.alloc (.cells (ecells x) 26)).ownsRow B 26 6 (.slice (some ⟨g, 0, none⟩) l3.length c') l3.length (ecs l3)) := hrow.below B7
        have N7 : Hid (∀ j u, (ecells x).toList[j]? = some u → (wr.drew.alloc (.cells (ecells x) 26)).cell? ((⟨wr.heap.size, 0, none⟩ : Addr).add j) = some u) := World.news_of_block (heap_alloc_new wr.drew (.cells (ecells x) 26))
        have S7 : Hid (B ≤ (wr.drew.alloc (.cells (ecells x) 26)).heap.size) := by show B ≤ _; simp; show B ≤ wr.heap.size + 1; omega
        have C7 : Hid ((wr.drew.alloc (.cells (ecells x) 26)).cell? ⟨p, 0, none⟩ = some (.slice (some ⟨g, 0, none⟩) l3.length c') ∧ (wr.drew.alloc (.cells (ecells x) 26)).frozen? ⟨p, 0, none⟩ = false ∧ p < (wr.drew.alloc (.cells (ecells x) 26)).heap.size) := ⟨((bcell B7).1 p 0 hpr).trans b0, ((bcell B7).2 p 0 hpr).trans hz, Nat.lt_of_lt_of_le hpr B7.size⟩
        have H7 : Hid (Below wr.heap.size wr (wr.drew.alloc (.cells (ecells x) 26))) := B7
        clear B7 hrow hX hsz
        unfold ecells at O7 N7 S7 C7
        simp only at O7 N7 S7 C7
        go_region_law (refine step_append_lies _ rfl (.tmp 51) (.tmp 53) 39 rfl B 26 i0 (.agg #[.int .i64 0, .int .i64 0, .int .i64 0, .int .i64 0, .bool false, .bool false]) 6 40 Try.underlying39 hi0 hz0 hz1 hz2 rfl (by decide) (.slice (some ⟨g, 0, none⟩) l3.length c') l3.length (ecs l3) rfl O7.out ⟨wr.heap.size, 0, none⟩ 1 1 (ecells x).toList rfl rfl N7.out (one_cells x) (by decide) (by simp [maxLen]; omega) (by omega) S7.out _ rfl ?_; intro g1 c1 w5 ho hgrow hat hlt5; have c0 : w5.cell? ⟨p, 0, none⟩ = some (.slice (some ⟨g, 0, none⟩) l3.length c') := hgrow.cell C7.out.1 hap; have z0 : w5.frozen? ⟨p, 0, none⟩ = false := (hgrow.frozen_far ⟨p, 0, none⟩ C7.out.2.2 hap).trans C7.out.2.1)
        all_goals
          have X := hB.out.append H7.out (by omega) ⟨hm, hxb⟩ rfl ho hgrow hat
          have HX : Hid (Buf B (w5.setCell ⟨p, 0, none⟩ (.slice (some ⟨g1, 0, none⟩) (l3.length + 1) c1)) p (.slice (some ⟨g1, 0, none⟩) (l3.length + 1) c1) (l3 ++ [x]) (k || clashes (l3.take l3.length) x) ∧ Step w (w5.setCell ⟨p, 0, none⟩ (.slice (some ⟨g1, 0, none⟩) (l3.length + 1) c1)) p (.slice (some ⟨g, 0, none⟩) l.length c') (.slice (some ⟨g1, 0, none⟩) (l3.length + 1) c1)) := ⟨X.1, hSt.out.trans X.2⟩
          clear X ho hgrow hat hB hSt
          go_wp2
          go_ret
          rw [HCU.out]
          refine ⟨rfl, _, ?_, HX.out.2⟩
          have h := HX.out.1
          rw [List.take_length] at h
          exact h
  · have hcu : cut64 l = l := by simp [cut64, h64]
    have h64z : ((l.length : Int) == 64) = false := by simp; omega
    have HCU : Hid (cut64 l = l) := hcu
    have hll : l.length ≤ 63 := by omega
    have H3 : Hid (Laid w2 w.heap.size 26 (ecells x) ∧ Buf B w2 p (.slice ao l.length c) l k ∧ Step w w2 p (.slice ao l.length c) (.slice ao l.length c)) := ⟨X2, b2, Step.of_below L2 p _⟩
    clear hcu X2 b2 L2 h64
    go_wp2_with fail
    go_loopw [6, 36] (fun _ i W => ∃ j : Nat, j ≤ l.length ∧ i = .int .i64 j ∧ Hid (Laid W w.heap.size 26 (ecells x)) ∧ Hid (Buf B W p (.slice ao l.length c) l (k || clashes (l.take j) x)) ∧ Hid (Step w W p (.slice ao l.length c) (.slice ao l.length c))) (fun _ i _ => l.length - (intOf i).toNat)
    case atStart => exact ⟨0, Nat.zero_le _, rfl, H3.out.1, by simpa [clashes, Hid] using H3.out.2.1, H3.out.2.2⟩
    case round =>
      obtain ⟨j, hj, rfl, hX, hB, hSt⟩ := hrel
      obtain ⟨x0, x1, x2, x3, x4, x5⟩ := hX.out.ent
      have hlx := hX.out.lt
      have hpr := hB.out.ptr.lt
      by_cases hlt : j < l.length
      · have hltz : (j : Int) < (l.length : Int) := by omega
        rcases hB.out.row.cases' with ⟨_, h0⟩ | ⟨g', c', cur, hv, _, hg0, hg, hlc, hcm, hs, hd⟩
        · rw [h0] at hlt
          simp at hlt
        obtain rfl : ao = some ⟨g', 0, none⟩ := by cases hv; rfl
        obtain ⟨c0, c1, c2, c3, c4, c5⟩ := head_cells (w := wr) hg (hd j hlt)
        have hC := fun w => clash_any (l.getD j Ent.zero) x w (hB.out.may _ (mem_getD l j hlt)).1 hm
        have htk := take_snoc l j hlt
        have B4 : Below wr.heap.size wr (wr.alloc (.cells (ecells (l.getD j Ent.zero)) 26)) := (Below.refl _ _).alloc (Nat.le_refl _) _
        have X4 := hX.out.below B4
        have b4 := hB.out.below B4
        have S4 := hSt.out.trans (Step.of_below B4 p (.slice (some ⟨g', 0, none⟩) l.length c))
        generalize l.getD j Ent.zero = y at *
        have HT : Hid (clashes (l.take (j + 1)) x = (clashes (l.take j) x || clashB y x)) := by rw [htk]; exact clashes_snoc _ _ _
        have H4 : Hid (Laid (wr.alloc (.cells (ecells y) 26)) w.heap.size 26 (ecells x) ∧ Buf B (wr.alloc (.cells (ecells y) 26)) p (.slice (some ⟨g', 0, none⟩) l.length c) l (k || clashes (l.take j) x) ∧ Step w (wr.alloc (.cells (ecells y) 26)) p (.slice (some ⟨g', 0, none⟩) l.length c) (.slice (some ⟨g', 0, none⟩) l.length c)) := ⟨X4, b4, S4⟩
        clear htk B4 X4 b4 S4 hX hB hSt hv hg hlc hcm hs hd H3
        have hne1 : w.heap.size ≠ wr.heap.size := by omega
        unfold ev at hC
        cases hq : clashB y x with
        | false =>
          rw [hq] at hC HT
          clear hq
          go_wp2_with fail
          refine (hC _).mono ?_
          rintro e w4 ⟨rfl, hb⟩
          obtain ⟨X4, b4, S4⟩ := H4.out
          have H5 : Hid (Laid w4 w.heap.size 26 (ecells x) ∧ Buf B w4 p (.slice (some ⟨g', 0, none⟩) l.length c) l (k || clashes (l.take j) x) ∧ Step w w4 p (.slice (some ⟨g', 0, none⟩) l.length c) (.slice (some ⟨g', 0, none⟩) l.length c)) := ⟨X4.below hb, b4.below hb, S4.trans (Step.of_below hb p (.slice (some ⟨g', 0, none⟩) l.length c))⟩
          clear hb X4 b4 S4 H4 c0 c1 c2 c3 c4 c5 x0 x1 x2 x3 x4 x5 hC
          go_wp2
          go_roundw
          case rel => exact ⟨j + 1, by omega, by go_num, H5.out.1, by
            show Buf _ _ _ _ _ _
            rw [HT.out, Bool.or_false]
            exact H5.out.2.1, H5.out.2.2⟩
          case measure => simp [intOf]; omega
        | true =>
          rw [hq] at hC HT
          clear hq
          go_wp2_with fail
          refine (hC _).mono ?_
          rintro e w4 ⟨rfl, hb⟩
          obtain ⟨X4, b4, S4⟩ := H4.out
          have b5 := b4.below hb
          obtain ⟨-, p1⟩ := b5.cells
          have z1 := b5.ptr.frozen 1
          have H5 : Hid (Laid w4 w.heap.size 26 (ecells x) ∧ Buf B w4 p (.slice (some ⟨g', 0, none⟩) l.length c) l (k || clashes (l.take j) x) ∧ Step w w4 p (.slice (some ⟨g', 0, none⟩) l.length c) (.slice (some ⟨g', 0, none⟩) l.length c)) := ⟨X4.below hb, b5, S4.trans (Step.of_below hb p (.slice (some ⟨g', 0, none⟩) l.length c))⟩
          clear hb X4 b4 b5 S4 H4 c0 c1 c2 c3 c4 c5 x0 x1 x2 x3 x4 x5 hC
          go_wp2
          obtain ⟨X5, b5, S5⟩ := H5.out
          have b6 := b5.break
          go_roundw
          case rel => exact ⟨j + 1, by omega, by go_num, X5.kept (grown_set w4 p 1 (.bool true)) (by simp; omega), by
            show Buf _ _ _ _ _ _
            rw [HT.out, Bool.or_true, Bool.or_true]
            exact b6.1, S5.trans b6.2⟩
          case measure => simp [intOf]; omega
      · obtain rfl : j = l.length := by omega
        have hltz : ¬ (l.length : Int) < (l.length : Int) := by omega
        obtain ⟨b0, -⟩ := hB.out.cells
        have hz := hB.out.ptr.frozen 0
        have hap := hB.out.apart
        have hsz := hSt.out.size
        clear H3
        go_wp2_with fail
        have hrow := hB.out.row
        have B7 : Below wr.heap.size wr (wr.drew.alloc (.cells (ecells x) 26)) := ((Below.refl wr.heap.size wr).drew).alloc (Nat.le_refl _) _
        have O7 : Hid ((wr.drew.alloc (.cells (ecells x) 26)).ownsRow B 26 6 (.slice ao l.length c) l.length (ecs l)) := hrow.below B7
        have N7 : Hid (∀ j u, (ecells x).toList[j]? = some u → (wr.drew.alloc (.cells (ecells x) 26)).cell? ((⟨wr.heap.size, 0, none⟩ : Addr).add j) = some u) := World.news_of_block (heap_alloc_new wr.drew (.cells (ecells x) 26))
        have S7 : Hid (B ≤ (wr.drew.alloc (.cells (ecells x) 26)).heap.size) := by show B ≤ _; simp; show B ≤ wr.heap.size + 1; omega
        have C7 : Hid ((wr.drew.alloc (.cells (ecells x) 26)).cell? ⟨p, 0, none⟩ = some (.slice ao l.length c) ∧ (wr.drew.alloc (.cells (ecells x) 26)).frozen? ⟨p, 0, none⟩ = false ∧ p < (wr.drew.alloc (.cells (ecells x) 26)).heap.size) := ⟨((bcell B7).1 p 0 hpr).trans b0, ((bcell B7).2 p 0 hpr).trans hz, Nat.lt_of_lt_of_le hpr B7.size⟩
        have H7 : Hid (Below wr.heap.size wr (wr.drew.alloc (.cells (ecells x) 26))) := B7
        clear B7 hrow hX hsz
        unfold ecells at O7 N7 S7 C7
        simp only at O7 N7 S7 C7
        go_region_law (refine step_append_lies _ rfl (.tmp 51) (.tmp 53) 39 rfl B 26 i0 (.agg #[.int .i64 0, .int .i64 0, .int .i64 0, .int .i64 0, .bool false, .bool false]) 6 40 Try.underlying39 hi0 hz0 hz1 hz2 rfl (by decide) (.slice ao l.length c) l.length (ecs l) rfl O7.out ⟨wr.heap.size, 0, none⟩ 1 1 (ecells x).toList rfl rfl N7.out (one_cells x) (by decide) (by simp [maxLen]; omega) (by omega) S7.out _ rfl ?_; intro g1 c1 w5 ho hgrow hat hlt5; have c0 : w5.cell? ⟨p, 0, none⟩ = some (.slice ao l.length c) := hgrow.cell C7.out.1 hap; have z0 : w5.frozen? ⟨p, 0, none⟩ = false := (hgrow.frozen_far ⟨p, 0, none⟩ C7.out.2.2 hap).trans C7.out.2.1)
        all_goals
          have X := hB.out.append H7.out (by omega) ⟨hm, hxb⟩ rfl ho hgrow hat
          have HX : Hid (Buf B (w5.setCell ⟨p, 0, none⟩ (.slice (some ⟨g1, 0, none⟩) (l.length + 1) c1)) p (.slice (some ⟨g1, 0, none⟩) (l.length + 1) c1) (l ++ [x]) (k || clashes (l.take l.length) x) ∧ Step w (w5.setCell ⟨p, 0, none⟩ (.slice (some ⟨g1, 0, none⟩) (l.length + 1) c1)) p (.slice ao l.length c) (.slice (some ⟨g1, 0, none⟩) (l.length + 1) c1)) := ⟨X.1, hSt.out.trans X.2⟩
          clear X ho hgrow hat hB hSt
          go_wp2
          go_ret
          rw [HCU.out]
          refine ⟨rfl, _, ?_, HX.out.2⟩
          have h := HX.out.1
          rw [List.take_length] at h
          exact h
end Go.Proofs.Ytpkagigjcnjlpaa
