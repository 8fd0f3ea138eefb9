/- The document's Drop; 'same'. -/
import Derived.Test.YtpkagigjcnjlpaaEMod
namespace Go.Proofs.Ytpkagigjcnjlpaa
open Go.RowKit

theorem stay_same' {q : Ent → Bool} {l : List Ent} {i : Nat} (hi : i < l.length) (h : q (l.getD i Ent.zero) = true) : stay q (l.take (i + 1)) = stay q (l.take i) := by
  rw [take_snoc l i hi, stay_snoc, h]
  simp
def ModPost (B : Nat) (w : World) (q : Nat) (u : Value) (l' : List Ent) (k' : Bool) (e : Ending) (w' : World) : Prop := e = .returned (.tuple #[]) ∧ ∃ u', Mod B w' q u' l' k' ∧ MStep w w' q u u'
theorem Mod.store {B : Nat} {w W : World} {q : Nat} {u u' : Value} {l l' : List Ent} {k : Bool} (m : Mod B w q u l k) (hB : B ≤ w.heap.size) (hb : Below w.heap.size w W) (h : Own w.heap.size W u' l') : Mod B (W.setCell ⟨q, 0, none⟩ u') q u' l' k ∧ MStep w (W.setCell ⟨q, 0, none⟩ u') q u u' := by
  have h2 := grown_set W q 0 u'
  have hq := m.ptr.lt
  refine ⟨⟨m.base, ?_, ?_⟩, ?_⟩
  · have := heap_setCell_same W q 0 _ _ u' (m.ptr.below hb)
    simpa [Laid] using this
  · refine (h.lower hB).kept h2 (Or.inr fun e => ?_)
    have := (World.ownsRow.lt h q e).1
    omega
  · exact ⟨h2.os.trans hb.os, h2.tape.trans hb.tape, h2.output.trans hb.output, Nat.le_trans hb.size h2.size, fun b hlt hne => (h2.block b (Nat.lt_of_lt_of_le hlt hb.size) (by simpa using hne)).trans (hb.block b hlt), Or.inr fun g hg => (World.ownsRow.lt h g hg).1⟩

set_option maxRecDepth 100000 in
set_option maxHeartbeats 4000000 in
theorem refDropPage {B : Nat} {w : World} {q : Nat} {u : Value} {l : List Ent} {k : Bool} (m : Mod B w q u l k) (hBw : B ≤ w.heap.size) (hlen : l.length ≤ 64) (hmay : ∀ x ∈ l, mayB x = true ∧ x.base ≤ 9223372036854775807) (asid page : Int) (h0 : ¬ page < 0) :
    Calls Try.prog 21 #[.pointer (some ⟨q, 0, none⟩), .int .i64 asid, .int .i64 page] w (ModPost B w q u (stay (pgB asid page) l) k) := by
  obtain ⟨i0, hi0, hz0, hz1, hz2⟩ := info_parts info_ent
  have hp := m.ptr.lt
  have hz : w.frozen? ⟨q, 0, none⟩ = false := m.ptr.frozen 0
  have HM : Hid _ := hmay
  obtain ⟨ao, c, rfl⟩ := m.row.form
  have HR : Hid (Mod B w q (.slice ao l.length c) l k) := m
  have hmB := m.base
  clear hmay m
  go_enter Try.func21, Try.ntmps21
  go_wp2_with fail
  go_loopw [6, 7, 8] (fun vo i _ W => ∃ j : Nat, j ≤ l.length ∧ i = .int .i64 j ∧ Hid (Own w.heap.size W vo (stay (pgB asid page) (l.take j))) ∧ Hid (Below w.heap.size w W)) (fun _ i _ _ => l.length - (intOf i).toNat)
  case atStart => exact ⟨0, by omega, rfl, World.ownsRow_nil _ _ _ _, Below.refl _ _⟩
  case round =>
    obtain ⟨j, hj, rfl, hO, L⟩ := hrel
    have b0 : wr.cell? ⟨q, 0, none⟩ = some (.slice ao l.length c) := ((bcell L.out).1 q 0 hp).trans HR.out.cells.1
    by_cases hlt : j < l.length
    · have hltz : (j : Int) < (l.length : Int) := by omega
      rcases HR.out.row.cases' with ⟨_, rfl⟩ | ⟨g, c', cur, hv, hB, hg0, hg, hlc, hcm, hs, hh⟩
      · simp at hlt
      obtain rfl : ao = some ⟨g, 0, none⟩ := by cases hv; rfl
      obtain ⟨c0, c1, c2, c3, c4, c5⟩ := head_cells (w := wr) ((L.out.block g hg0).trans hg) (hh j hlt)
      have hgw : g < wr.heap.size := Nat.lt_of_lt_of_le hg0 L.out.size
      have hI := fun w => Is_any (l.getD j Ent.zero) asid page w (HM.out _ (mem_getD l j hlt)).1
      have hsame := stay_same' (q := (pgB asid page)) hlt
      have hnext : (pgB asid page) (l.getD j Ent.zero) = false → stay (pgB asid page) (l.take (j + 1)) = stay (pgB asid page) (l.take j) ++ [l.getD j Ent.zero] := fun h => by
        rw [take_snoc l j hlt, stay_snoc, h]
        rfl
      have hqw : q < wr.heap.size := Nat.lt_of_lt_of_le hp L.out.size
      have hsl : (stay (pgB asid page) (l.take j)).length ≤ 64 := Nat.le_trans (stay_len _ _) (by simp; omega)
      generalize l.getD j Ent.zero = y at *
      have HSM : Hid _ := hsame
      have HNX : Hid _ := hnext
      have H2 : Hid (Own w.heap.size wr u6 (stay (pgB asid page) (l.take j)) ∧ Below w.heap.size w wr) := And.intro hO.out L.out
      clear hsame hnext hv hg hh hs hcm hlc hB hO L HR HM
      unfold ev at hI
      cases hq : (pgB asid page) y with
      | true =>
        rw [show isB y asid page = true from hq] at hI
        have HQ : Hid ((pgB asid page) y = true) := hq
        clear hq
        go_wp2_with fail
        refine (hI _).mono ?_
        rintro e w1 ⟨rfl, hb⟩
        obtain ⟨O2, L2⟩ := H2.out
        have L3 := below_call L2 L2.size hb
        have O3 := O2.below hb
        have b1 : w1.cell? ⟨q, 0, none⟩ = some (.slice (some ⟨g, 0, none⟩) l.length c) := ((bcell hb).1 q 0 hqw).trans b0
        have x0 := ((bcell hb).1 g (j * 6) hgw).trans c0
        have x1 := ((bcell hb).1 g (j * 6 + 1) hgw).trans c1
        have x2 := ((bcell hb).1 g (j * 6 + 2) hgw).trans c2
        have x3 := ((bcell hb).1 g (j * 6 + 3) hgw).trans c3
        have x4 := ((bcell hb).1 g (j * 6 + 4) hgw).trans c4
        have x5 := ((bcell hb).1 g (j * 6 + 5) hgw).trans c5
        have H3 : Hid (Own w.heap.size w1 u6 (stay (pgB asid page) (l.take (j + 1))) ∧ Below w.heap.size w w1) := ⟨by rw [HSM.out HQ.out]; exact O3, L3⟩
        clear c0 c1 c2 c3 c4 c5 hb O2 L2 O3 L3 H2 hI b0
        go_wp2
        go_roundw
        case rel => exact ⟨j + 1, by omega, by go_num, H3.out.1, H3.out.2⟩
        case measure => simp [intOf]; omega
      | false =>
        rw [show isB y asid page = false from hq] at hI
        have HQ : Hid ((pgB asid page) y = false) := hq
        clear hq
        go_wp2_with fail
        refine (hI _).mono ?_
        rintro e w1 ⟨rfl, hb⟩
        obtain ⟨O2, L2⟩ := H2.out
        have L3 := below_call L2 L2.size hb
        have O3 := O2.below hb
        have b1 : w1.cell? ⟨q, 0, none⟩ = some (.slice (some ⟨g, 0, none⟩) l.length c) := ((bcell hb).1 q 0 hqw).trans b0
        have x0 := ((bcell hb).1 g (j * 6) hgw).trans c0
        have x1 := ((bcell hb).1 g (j * 6 + 1) hgw).trans c1
        have x2 := ((bcell hb).1 g (j * 6 + 2) hgw).trans c2
        have x3 := ((bcell hb).1 g (j * 6 + 3) hgw).trans c3
        have x4 := ((bcell hb).1 g (j * 6 + 4) hgw).trans c4
        have x5 := ((bcell hb).1 g (j * 6 + 5) hgw).trans c5
        have hw1 := L3.size
        have H3 : Hid (Own w.heap.size w1 u6 (stay (pgB asid page) (l.take j)) ∧ Below w.heap.size w w1) := ⟨O3, L3⟩
        clear c0 c1 c2 c3 c4 c5 hb O2 L2 L3 H2 hI b0
        go_wp2_with (at_builtin; go_loud (refine wpList_append_own _ rfl (.tmp 47) (.tmp 55) 39 rfl w.heap.size 26 i0 (.agg #[.int .i64 0, .int .i64 0, .int .i64 0, .int .i64 0, .bool false, .bool false]) 6 40 Try.underlying39 hi0 hz0 hz1 hz2 rfl (by decide) u6 (stay (pgB asid page) (l.take j)).length (ecs (stay (pgB asid page) (l.take j))) rfl (World.ownsRow.alloc O3 _) ⟨w1.heap.size, 0, none⟩ 1 1 (ecells y).toList rfl rfl ?c1 (one_cells y) ?c3 ?c4 ?c5 ?_))
        case c1 => first | exact World.news_of_block (heap_alloc_new w1 (.cells (ecells y) 26)) | (intro j u h; simpa [ecells] using h)
        case c3 => simp [maxLen]; omega
        case c4 => omega
        case c5 => first | omega | (simp; omega)
        intro v' w2 ho hgrow _
        have H4 : Hid (Own w.heap.size w2 v' (stay (pgB asid page) (l.take (j + 1))) ∧ Below w.heap.size w w2) := by
          obtain ⟨O3, L3⟩ := H3.out
          refine ⟨?_, (L3.alloc L3.size _).grown hgrow (by simp; omega) (fun r e => (World.ownsRow.lt O3 r e).1)⟩
          rw [HNX.out HQ.out]
          unfold Own
          rw [ecs_snoc, List.length_append]
          exact ho
        clear ho hgrow H3 O3
        go_wp2
        go_roundw
        case rel => exact ⟨j + 1, by omega, by go_num, H4.out.1, H4.out.2⟩
        case measure => simp [intOf]; omega
    · obtain rfl : j = l.length := by omega
      have hltz : ¬ (l.length : Int) < (l.length : Int) := by omega
      have hst : stay (pgB asid page) (l.take l.length) = stay (pgB asid page) l := by rw [List.take_length]
      have O2 := hO.out
      rw [hst] at O2
      have X := HR.out.store hBw L.out O2
      obtain ⟨a2, c2, rfl⟩ := O2.form
      have z1 : wr.frozen? ⟨q, 0, none⟩ = false := ((bcell L.out).2 q 0 hp).trans hz
      have HX : Hid (Mod B (wr.setCell ⟨q, 0, none⟩ (.slice a2 (stay (pgB asid page) l).length c2)) q (.slice a2 (stay (pgB asid page) l).length c2) (stay (pgB asid page) l) k ∧ MStep w (wr.setCell ⟨q, 0, none⟩ (.slice a2 (stay (pgB asid page) l).length c2)) q (.slice ao l.length c) (.slice a2 (stay (pgB asid page) l).length c2)) := X
      clear hO L hst X O2 HR
      go_wp2
      go_end0
      exact ⟨rfl, _, HX.out.1, HX.out.2⟩

set_option maxRecDepth 100000 in
set_option maxHeartbeats 4000000 in
theorem refDropSpace {B : Nat} {w : World} {q : Nat} {u : Value} {l : List Ent} {k : Bool} (m : Mod B w q u l k) (hBw : B ≤ w.heap.size) (hlen : l.length ≤ 64) (hmay : ∀ x ∈ l, mayB x = true ∧ x.base ≤ 9223372036854775807) (asid : Int) :
    Calls Try.prog 21 #[.pointer (some ⟨q, 0, none⟩), .int .i64 asid, .int .i64 (-1)] w (ModPost B w q u (stay (spB asid) l) k) := by
  obtain ⟨i0, hi0, hz0, hz1, hz2⟩ := info_parts info_ent
  have hp := m.ptr.lt
  have hz : w.frozen? ⟨q, 0, none⟩ = false := m.ptr.frozen 0
  have HM : Hid _ := hmay
  obtain ⟨ao, c, rfl⟩ := m.row.form
  have HR : Hid (Mod B w q (.slice ao l.length c) l k) := m
  have hmB := m.base
  clear hmay m
  go_enter Try.func21, Try.ntmps21
  go_wp2_with fail
  go_loopw [6, 7, 8] (fun vo i _ W => ∃ j : Nat, j ≤ l.length ∧ i = .int .i64 j ∧ Hid (Own w.heap.size W vo (stay (spB asid) (l.take j))) ∧ Hid (Below w.heap.size w W)) (fun _ i _ _ => l.length - (intOf i).toNat)
  case atStart => exact ⟨0, by omega, rfl, World.ownsRow_nil _ _ _ _, Below.refl _ _⟩
  case round =>
    obtain ⟨j, hj, rfl, hO, L⟩ := hrel
    have b0 : wr.cell? ⟨q, 0, none⟩ = some (.slice ao l.length c) := ((bcell L.out).1 q 0 hp).trans HR.out.cells.1
    by_cases hlt : j < l.length
    · have hltz : (j : Int) < (l.length : Int) := by omega
      rcases HR.out.row.cases' with ⟨_, rfl⟩ | ⟨g, c', cur, hv, hB, hg0, hg, hlc, hcm, hs, hh⟩
      · simp at hlt
      obtain rfl : ao = some ⟨g, 0, none⟩ := by cases hv; rfl
      obtain ⟨c0, c1, c2, c3, c4, c5⟩ := head_cells (w := wr) ((L.out.block g hg0).trans hg) (hh j hlt)
      have hgw : g < wr.heap.size := Nat.lt_of_lt_of_le hg0 L.out.size
      have hI := fun w => Is_any (l.getD j Ent.zero) asid (-1) w (HM.out _ (mem_getD l j hlt)).1
      have hsame := stay_same' (q := (spB asid)) hlt
      have hnext : (spB asid) (l.getD j Ent.zero) = false → stay (spB asid) (l.take (j + 1)) = stay (spB asid) (l.take j) ++ [l.getD j Ent.zero] := fun h => by
        rw [take_snoc l j hlt, stay_snoc, h]
        rfl
      have hqw : q < wr.heap.size := Nat.lt_of_lt_of_le hp L.out.size
      have hsl : (stay (spB asid) (l.take j)).length ≤ 64 := Nat.le_trans (stay_len _ _) (by simp; omega)
      have hneg : isB (l.getD j Ent.zero) asid (-1) = false := by
        have hf := (may_parts (HM.out _ (mem_getD l j hlt)).1).2.1
        rw [isB_no]
        omega
      rw [hneg] at hI
      clear hneg
      generalize l.getD j Ent.zero = y at *
      have HSM : Hid _ := hsame
      have HNX : Hid _ := hnext
      have H2 : Hid (Own w.heap.size wr u6 (stay (spB asid) (l.take j)) ∧ Below w.heap.size w wr) := And.intro hO.out L.out
      clear hsame hnext hv hg hh hs hcm hlc hB hO L HR HM
      unfold ev at hI
      cases hq : (spB asid) y with
      | true =>
        have hv : (y.asid == asid) = true := hq
        have HQ : Hid ((spB asid) y = true) := hq
        clear hq
        go_wp2_with fail
        refine (hI _).mono ?_
        rintro e w1 ⟨rfl, hb⟩
        obtain ⟨O2, L2⟩ := H2.out
        have L3 := below_call L2 L2.size hb
        have O3 := O2.below hb
        have b1 : w1.cell? ⟨q, 0, none⟩ = some (.slice (some ⟨g, 0, none⟩) l.length c) := ((bcell hb).1 q 0 hqw).trans b0
        have x0 := ((bcell hb).1 g (j * 6) hgw).trans c0
        have x1 := ((bcell hb).1 g (j * 6 + 1) hgw).trans c1
        have x2 := ((bcell hb).1 g (j * 6 + 2) hgw).trans c2
        have x3 := ((bcell hb).1 g (j * 6 + 3) hgw).trans c3
        have x4 := ((bcell hb).1 g (j * 6 + 4) hgw).trans c4
        have x5 := ((bcell hb).1 g (j * 6 + 5) hgw).trans c5
        have H3 : Hid (Own w.heap.size w1 u6 (stay (spB asid) (l.take (j + 1))) ∧ Below w.heap.size w w1) := ⟨by rw [HSM.out HQ.out]; exact O3, L3⟩
        clear c0 c1 c2 c3 c4 c5 hb O2 L2 O3 L3 H2 hI b0
        go_wp2
        go_roundw
        case rel => exact ⟨j + 1, by omega, by go_num, H3.out.1, H3.out.2⟩
        case measure => simp [intOf]; omega
      | false =>
        have hv : (y.asid == asid) = false := hq
        have HQ : Hid ((spB asid) y = false) := hq
        clear hq
        go_wp2_with fail
        refine (hI _).mono ?_
        rintro e w1 ⟨rfl, hb⟩
        obtain ⟨O2, L2⟩ := H2.out
        have L3 := below_call L2 L2.size hb
        have O3 := O2.below hb
        have b1 : w1.cell? ⟨q, 0, none⟩ = some (.slice (some ⟨g, 0, none⟩) l.length c) := ((bcell hb).1 q 0 hqw).trans b0
        have x0 := ((bcell hb).1 g (j * 6) hgw).trans c0
        have x1 := ((bcell hb).1 g (j * 6 + 1) hgw).trans c1
        have x2 := ((bcell hb).1 g (j * 6 + 2) hgw).trans c2
        have x3 := ((bcell hb).1 g (j * 6 + 3) hgw).trans c3
        have x4 := ((bcell hb).1 g (j * 6 + 4) hgw).trans c4
        have x5 := ((bcell hb).1 g (j * 6 + 5) hgw).trans c5
        have hw1 := L3.size
        have H3 : Hid (Own w.heap.size w1 u6 (stay (spB asid) (l.take j)) ∧ Below w.heap.size w w1) := ⟨O3, L3⟩
        clear c0 c1 c2 c3 c4 c5 hb O2 L2 L3 H2 hI b0
        go_wp2_with (at_builtin; go_loud (refine wpList_append_own _ rfl (.tmp 47) (.tmp 55) 39 rfl w.heap.size 26 i0 (.agg #[.int .i64 0, .int .i64 0, .int .i64 0, .int .i64 0, .bool false, .bool false]) 6 40 Try.underlying39 hi0 hz0 hz1 hz2 rfl (by decide) u6 (stay (spB asid) (l.take j)).length (ecs (stay (spB asid) (l.take j))) rfl (World.ownsRow.alloc O3 _) ⟨w1.heap.size, 0, none⟩ 1 1 (ecells y).toList rfl rfl ?c1 (one_cells y) ?c3 ?c4 ?c5 ?_))
        case c1 => first | exact World.news_of_block (heap_alloc_new w1 (.cells (ecells y) 26)) | (intro j u h; simpa [ecells] using h)
        case c3 => simp [maxLen]; omega
        case c4 => omega
        case c5 => first | omega | (simp; omega)
        intro v' w2 ho hgrow _
        have H4 : Hid (Own w.heap.size w2 v' (stay (spB asid) (l.take (j + 1))) ∧ Below w.heap.size w w2) := by
          obtain ⟨O3, L3⟩ := H3.out
          refine ⟨?_, (L3.alloc L3.size _).grown hgrow (by simp; omega) (fun r e => (World.ownsRow.lt O3 r e).1)⟩
          rw [HNX.out HQ.out]
          unfold Own
          rw [ecs_snoc, List.length_append]
          exact ho
        clear ho hgrow H3 O3
        go_wp2
        go_roundw
        case rel => exact ⟨j + 1, by omega, by go_num, H4.out.1, H4.out.2⟩
        case measure => simp [intOf]; omega
    · obtain rfl : j = l.length := by omega
      have hltz : ¬ (l.length : Int) < (l.length : Int) := by omega
      have hst : stay (spB asid) (l.take l.length) = stay (spB asid) l := by rw [List.take_length]
      have O2 := hO.out
      rw [hst] at O2
      have X := HR.out.store hBw L.out O2
      obtain ⟨a2, c2, rfl⟩ := O2.form
      have z1 : wr.frozen? ⟨q, 0, none⟩ = false := ((bcell L.out).2 q 0 hp).trans hz
      have HX : Hid (Mod B (wr.setCell ⟨q, 0, none⟩ (.slice a2 (stay (spB asid) l).length c2)) q (.slice a2 (stay (spB asid) l).length c2) (stay (spB asid) l) k ∧ MStep w (wr.setCell ⟨q, 0, none⟩ (.slice a2 (stay (spB asid) l).length c2)) q (.slice ao l.length c) (.slice a2 (stay (spB asid) l).length c2)) := X
      clear hO L hst X O2 HR
      go_wp2
      go_end0
      exact ⟨rfl, _, HX.out.1, HX.out.2⟩

set_option maxRecDepth 100000 in
set_option maxHeartbeats 4000000 in
theorem same_any {B : Nat} {w : World} {p q : Nat} {v u : Value} {l : List Ent} {k : Bool} (b : Buf B w p v l k) (m : Mod B w q u l k) :
    Calls Try.prog 26 #[.pointer (some ⟨p, 0, none⟩), .pointer (some ⟨q, 0, none⟩)] w fun e w' => e = .returned (.bool true) ∧ Below w.heap.size w w' := by
  have hE := entries_any b
  obtain ⟨ao, c, rfl⟩ := m.row.form
  have hlen := b.len
  have H0 : Hid (Buf B w p v l k ∧ Mod B w q (.slice ao l.length c) l k) := ⟨b, m⟩
  clear b m
  go_enter Try.func26, Try.ntmps26
  go_wp2_with fail
  refine hE.mono ?_
  rintro e w1 ⟨v1, rfl, O1, hb⟩
  obtain ⟨b, m⟩ := H0.out
  have b1 := b.below hb
  have m1 := m.below hb
  obtain ⟨m0, m2⟩ := m1.cells
  have hB := fun d => broken_any (b1.below (below_drewN (Below.refl _ _) d))
  obtain ⟨a1, c1, rfl⟩ := O1.form
  have H1 : Hid (Mod B w1 q (.slice ao l.length c) l k ∧ Own w.heap.size w1 (.slice a1 l.length c1) l ∧ Below w.heap.size w w1) := ⟨m1, O1, hb⟩
  clear b m b1 m1 O1 hb H0 hE
  have hnn : ((l.length : Int) != (l.length : Int)) = false := by simp
  go_wp2_with fail
  go_quiet ((go_at_call 28; exact Calls.quiet_of_same (hB _)))
  go_wp2_with fail
  have HW : Hid (Below w1.heap.size w1 (w1.drewN nq)) := below_drewN (Below.refl _ _) _
  go_loopw [6] (fun i W => ∃ j : Nat, j ≤ l.length ∧ i = .int .i64 j ∧ Hid (Below w1.heap.size w1 W)) (fun i _ => l.length - (intOf i).toNat)
  case atStart => exact ⟨0, by omega, rfl, HW⟩
  case round =>
    obtain ⟨j, hj, rfl, HI⟩ := hrel
    obtain ⟨m1, O1, L1⟩ := H1.out
    by_cases hlt : j < l.length
    · have hltz : (j : Int) < (l.length : Int) := by omega
      obtain ⟨g, rfl, -, x0, x1, x2, x3, x4, x5⟩ := (O1.below HI.out).at hlt
      obtain ⟨g2, rfl, -, y0, y1, y2, y3, y4, y5⟩ := (m1.row.below HI.out).at hlt
      have b0 := (m1.below HI.out).cells.1
      have hn := neq_ent (l.getD j Ent.zero) (l.getD j Ent.zero)
      rw [eqE_self] at hn
      generalize l.getD j Ent.zero = x at *
      unfold ev at hn
      simp only [Bool.not_true] at hn
      clear O1 m1 L1 m0 m2 HW hB
      go_wp2_with fail
      go_quiet (fail)
      go_wp2
      go_roundw
      case rel => exact ⟨j + 1, by omega, by go_num, below_drewN HI.out _⟩
      case measure => simp [intOf]; omega
    · obtain rfl : j = l.length := by omega
      have hltz : ¬ (l.length : Int) < (l.length : Int) := by omega
      clear O1 m1 hB
      go_wp2
      go_ret
      exact ⟨rfl, below_call L1 L1.size HI.out⟩
end Go.Proofs.Ytpkagigjcnjlpaa
