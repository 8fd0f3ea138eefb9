/- The document's buffer: how it lies; what its Find answers; 'same'. -/
import Derived.Test.YtpkagigjcnjlpaaEFills
namespace Go.Proofs.Ytpkagigjcnjlpaa
open Go.RowKit

/-- The document's buffer. -/
structure Mod (B : Nat) (w : World) (q : Nat) (u : Value) (l : List Ent) (k : Bool) : Prop where
  base : B ≤ q
  ptr : Laid w q 41 #[u, .bool k]
  row : Own B w u l
/-- What a call does that works on it: it writes no row that lay. -/
structure MStep (w w' : World) (q : Nat) (u u' : Value) : Prop where
  os : w'.os = w.os
  tape : w'.tape = w.tape
  output : w'.output = w.output
  size : w.heap.size ≤ w'.heap.size
  block : ∀ b, b < w.heap.size → b ≠ q → w'.heap[b]? = w.heap[b]?
  own : u'.ownBlock = u.ownBlock ∨ ∀ g, u'.ownBlock = some g → w.heap.size ≤ g
theorem MStep.of_below {w w' : World} (h : Below w.heap.size w w') (q : Nat) (u : Value) : MStep w w' q u u := ⟨h.os, h.tape, h.output, h.size, fun b hb _ => h.block b hb, Or.inl rfl⟩
theorem MStep.below {B : Nat} {w w' : World} {q : Nat} {u u' : Value} (h : MStep w w' q u u') (hB : B ≤ w.heap.size) (hq : B ≤ q) : Below B w w' :=
  ⟨h.os, h.tape, h.output, h.size, fun b hb => h.block b (by omega) (by omega)⟩
theorem MStep.pre {a w w' : World} {q : Nat} {u u' : Value} (h : MStep w w' q u u') (hb : Below a.heap.size a w) : MStep a w' q u u' :=
  ⟨h.os.trans hb.os, h.tape.trans hb.tape, h.output.trans hb.output, Nat.le_trans hb.size h.size, fun b hlt hne => (h.block b (Nat.lt_of_lt_of_le hlt hb.size) hne).trans (hb.block b hlt), h.own.imp id fun h' g hg => Nat.le_trans hb.size (h' g hg)⟩
theorem Mod.below {B : Nat} {w w' : World} {q : Nat} {u : Value} {l : List Ent} {k : Bool} (m : Mod B w q u l k) (hb : Below w.heap.size w w') : Mod B w' q u l k := ⟨m.base, m.ptr.below hb, m.row.below hb⟩
theorem Mod.cells {B : Nat} {w : World} {q : Nat} {u : Value} {l : List Ent} {k : Bool} (m : Mod B w q u l k) : w.cell? ⟨q, 0, none⟩ = some u ∧ w.cell? ⟨q, 1, none⟩ = some (.bool k) := ⟨m.ptr.cell 0, m.ptr.cell 1⟩
theorem Own.no_struct {B : Nat} {w : World} {q : Nat} {t : TypeId} {cs : Array Value} {u : Value} {l : List Ent} (h : Own B w u l) (hq : Laid w q t cs) (ht : t ≠ 26) : some q ≠ u.ownBlock := by
  intro e
  rcases h.cases' with ⟨rfl, _⟩ | ⟨g, c, cur, rfl, _, _, hg, _⟩
  · simp [Value.ownBlock] at e
  · simp [Value.ownBlock] at e
    exact ne_of_tag hq hg ht e
theorem Mod.apart {B : Nat} {w : World} {q : Nat} {u : Value} {l : List Ent} {k : Bool} (m : Mod B w q u l k) : some q ≠ u.ownBlock := m.row.no_struct m.ptr (by decide)
def Apart (v u : Value) : Prop := ∀ g, v.ownBlock = some g → u.ownBlock ≠ some g

/-- A struct that lies beside a buffer stays. -/
theorem Laid.beside {B : Nat} {w w' : World} {p d : Nat} {v v' : Value} {l : List Ent} {k : Bool} {t : TypeId} {cs : Array Value} (h : Laid w d t cs) (b : Buf B w p v l k) (s : Step w w' p v v') (h1 : t ≠ 62) (h2 : t ≠ 26) : Laid w' d t cs :=
  h.step s (ne_of_tag h b.ptr h1) (b.row.no_struct h h2)
theorem Laid.mbeside {w w' : World} {q d : Nat} {u u' : Value} {t : TypeId} {cs cs' : Array Value} (h : Laid w d t cs) (m : Laid w q 41 cs') (s : MStep w w' q u u') (h1 : t ≠ 41) : Laid w' d t cs :=
  (s.block d h.lt (ne_of_tag h m h1)).trans h
theorem Mod.beside {B : Nat} {w w' : World} {p q : Nat} {v v' u : Value} {l l' : List Ent} {k k' : Bool} (m : Mod B w q u l k) (b : Buf B w p v l' k') (s : Step w w' p v v') (ha : Apart v u) : Mod B w' q u l k ∧ Apart v' u := by
  refine ⟨⟨m.base, m.ptr.beside b s (by decide) (by decide), m.row.step s fun g hg => ⟨fun e => ?_, fun e => ?_⟩⟩, fun g hg e => ?_⟩
  · subst e
    exact m.row.no_struct b.ptr (by decide) hg.symm
  · exact ha g e.symm hg
  · rcases s.own with h | h
    · exact ha g (h.symm.trans hg) e
    · have h1 := h g hg
      have h2 := own_lt m.row g e
      omega
theorem Buf.mbeside {B : Nat} {w w' : World} {p q : Nat} {v u u' : Value} {l l' : List Ent} {k k' : Bool} (b : Buf B w p v l k) (m : Mod B w q u l' k') (s : MStep w w' q u u') (ha : Apart v u) : Buf B w' p v l k ∧ Apart v u' := by
  refine ⟨⟨b.base, b.ptr.mbeside m.ptr s (by decide), ?_, b.len, b.may⟩, fun g hg e => ?_⟩
  · refine ⟨b.row.1, ?_⟩
    rcases b.row.2 with h | ⟨g, cap, cur, rfl, h2, h3, h4⟩
    · exact Or.inl h
    · exact Or.inr ⟨g, cap, cur, rfl, h2, (s.block g (Array.getElem?_eq_some_iff.1 h3).1 (fun e => ne_of_tag m.ptr h3 (by decide) e.symm)).trans h3, h4⟩
  · rcases s.own with h | h
    · exact ha g hg (h.symm.trans e)
    · have h1 := h g e
      have h2 := own_lt b.row g hg
      omega

set_option maxRecDepth 100000 in
set_option maxHeartbeats 4000000 in
theorem refFind_any {B : Nat} {w : World} {q : Nat} {u : Value} {l : List Ent} {k : Bool} (m : Mod B w q u l k) (hlen : l.length ≤ 64) (hmay : ∀ x ∈ l, mayB x = true ∧ x.base ≤ 9223372036854775807) (asid page : Int) :
    Calls Try.prog 25 #[.pointer (some ⟨q, 0, none⟩), .int .i64 asid, .int .i64 page] w fun e w' => e = .returned (.tuple #[ev (fndE l asid page), .bool (fndB l asid page)]) ∧ Below w.heap.size w w' := by
  have hp := m.ptr.lt
  have B1 : Below w.heap.size w (w.alloc (.cells (ecells Ent.zero) 26)) := (Below.refl _ _).alloc (Nat.le_refl _) _
  have X1 := Laid.new w 26 (ecells Ent.zero)
  have H0 : Hid (Below w.heap.size w (w.alloc (.cells (ecells Ent.zero) 26)) ∧ Laid (w.alloc (.cells (ecells Ent.zero) 26)) w.heap.size 26 (ecells Ent.zero)) := And.intro B1 X1
  have HM : Hid _ := hmay
  have hne : q ≠ w.heap.size := by omega
  obtain ⟨ao, c, rfl⟩ := m.row.form
  have HR : Hid (Mod B w q (.slice ao l.length c) l k) := m
  clear B1 X1 hmay m
  go_enter Try.func25, Try.ntmps25
  go_wp2_with fail
  go_loopw [8, 9] (fun i _ W => ∃ j : Nat, j ≤ l.length ∧ i = .int .i64 j ∧ Hid (∀ y ∈ l.take j, isB y asid page = false) ∧ Hid (Laid W w.heap.size 26 (ecells Ent.zero)) ∧ Hid (Below w.heap.size w W)) (fun i _ _ => l.length - (intOf i).toNat)
  case atStart => exact ⟨0, by omega, rfl, by simp [Hid], H0.out.2, H0.out.1⟩
  case round =>
    obtain ⟨j, hj, rfl, hno, hX, L⟩ := hrel
    clear H0
    have b0 : wr.cell? ⟨q, 0, none⟩ = some (.slice ao l.length c) := ((bcell L.out).1 q 0 hp).trans HR.out.cells.1
    by_cases hlt : j < l.length
    · have hltz : (j : Int) < (l.length : Int) := by omega
      rcases HR.out.row.cases' with ⟨_, rfl⟩ | ⟨g, c', cur, hv, hB, hg0, hg, hlc, hcm, hs, hh⟩
      · simp at hlt
      obtain rfl : ao = some ⟨g, 0, none⟩ := by cases hv; rfl
      obtain ⟨c0, c1, c2, c3, c4, c5⟩ := head_cells (w := wr) ((L.out.block g hg0).trans hg) (hh j hlt)
      have hgw : g < wr.heap.size := Nat.lt_of_lt_of_le hg0 L.out.size
      have hI := fun w => Is_any (l.getD j Ent.zero) asid page w (HM.out _ (mem_getD l j hlt)).1
      have hhit := fnd_at hlt (asid := asid) (page := page)
      have htk := take_snoc l j hlt
      have hqw : q < wr.heap.size := Nat.lt_of_lt_of_le hp L.out.size
      generalize l.getD j Ent.zero = y at *
      have HT : Hid _ := htk
      have HX : Hid _ := hhit
      have H2 : Hid (Laid wr w.heap.size 26 (ecells Ent.zero) ∧ Below w.heap.size w wr) := And.intro hX.out L.out
      clear htk hhit hv hg hh hs hcm hlc hB hX L HR HM
      unfold ev at hI
      cases hq : isB y asid page with
      | true =>
        rw [hq] at hI
        have HP : Hid _ := hq
        clear hq
        go_wp2_with fail
        refine (hI _).mono ?_
        rintro e w1 ⟨rfl, hb⟩
        obtain ⟨R2, L2⟩ := H2.out
        have L3 := below_call L2 L2.size hb
        have R3 := R2.below hb
        have b1 : w1.cell? ⟨q, 0, none⟩ = some (.slice (some ⟨g, 0, none⟩) l.length c) := ((bcell hb).1 q 0 hqw).trans b0
        have x0 := ((bcell hb).1 g (j * 6) hgw).trans c0
        have x1 := ((bcell hb).1 g (j * 6 + 1) hgw).trans c1
        have x2 := ((bcell hb).1 g (j * 6 + 2) hgw).trans c2
        have x3 := ((bcell hb).1 g (j * 6 + 3) hgw).trans c3
        have x4 := ((bcell hb).1 g (j * 6 + 4) hgw).trans c4
        have x5 := ((bcell hb).1 g (j * 6 + 5) hgw).trans c5
        obtain ⟨r0, r1, r2, r3, r4, r5⟩ := R3.ent
        have hz := R3.frozen
        have H3 : Hid (Below w.heap.size w w1) := L3
        have hlt3 := R3.lt
        clear c0 c1 c2 c3 c4 c5 hb R2 L2 L3 R3 H2 hI b0
        go_wp2
        refine bodyPost_ret (v := .tuple #[ev y, .bool true]) ?_ rfl ⟨by rw [(HX.out HP.out hno.out).1, (HX.out HP.out hno.out).2], ?_⟩
        · simp [results, Try.results25, go_sem, ev, r0, r1, r2, r3, r4, r5]
        exact below_row H3.out H3.out.size (grown_setCells (ecells y).toList w1 w.heap.size 0) (Nat.le_refl _)
      | false =>
        rw [hq] at hI
        have HP : Hid _ := hq
        clear hq
        go_wp2_with fail
        refine (hI _).mono ?_
        rintro e w1 ⟨rfl, hb⟩
        obtain ⟨R2, L2⟩ := H2.out
        have L3 := below_call L2 L2.size hb
        have R3 := R2.below hb
        have H3 : Hid (Below w.heap.size w w1 ∧ Laid w1 w.heap.size 26 (ecells Ent.zero)) := And.intro L3 R3
        clear c0 c1 c2 c3 c4 c5 hb R2 L2 L3 R3 H2 hI b0
        go_wp2
        go_roundw
        case rel => exact ⟨j + 1, by omega, by go_num, by
          intro z hz
          rw [HT.out] at hz
          rcases List.mem_append.1 hz with h | h
          · exact hno.out z h
          · simp at h
            rw [h]
            exact HP.out, H3.out.2, H3.out.1⟩
        case measure => simp [intOf]; omega
    · obtain rfl : j = l.length := by omega
      have hltz : ¬ (l.length : Int) < (l.length : Int) := by omega
      obtain ⟨r0, r1, r2, r3, r4, r5⟩ := hX.out.ent
      have hz := hX.out.frozen
      have hN := fnd_none (l := l) (asid := asid) (page := page) (by simpa [Hid] using hno.out)
      have HN : Hid _ := hN
      have hlt3 := hX.out.lt
      clear hN hX
      go_wp2
      refine bodyPost_ret (v := .tuple #[ev Ent.zero, .bool false]) ?_ rfl ⟨by rw [HN.out.1, HN.out.2], ?_⟩
      · simp [results, Try.results25, go_sem, ev, Ent.zero, r0, r1, r2, r3, r4, r5]
      exact below_row L.out L.out.size (grown_setCells (ecells Ent.zero).toList wr w.heap.size 0) (Nat.le_refl _)
end Go.Proofs.Ytpkagigjcnjlpaa
