/- (*Watch).Write where a place is opened. -/
import Derived.Test.YtjijgpdfoilijaaBWrite
namespace Go.Proofs.Ytjijgpdfoilijaa
open Go.RowKit

theorem mem_putL {l : Gaps} {s : Int × Int} {y : Opn} {q : (Int × Int) × Opn} (h : q ∈ putL l s y) : q = (s, y) ∨ (q ∈ l ∧ q.1 ≠ s) := by
  unfold putL at h
  split at h
  · obtain ⟨q0, hq0, e⟩ := List.mem_map.1 h
    split at e
    · exact Or.inl e.symm
    · rename_i hne
      rw [← e]
      exact Or.inr ⟨hq0, hne⟩
  · rename_i hn
    rcases List.mem_append.1 h with h | h
    · refine Or.inr ⟨h, fun e => hn ?_⟩
      simp only [List.any_eq_true, decide_eq_true_eq]
      exact ⟨q, h, e⟩
    · exact Or.inl (by simpa using h)
/-- One is opened: it lies in new blocks. -/
theorem Wat.opened {F : Nat → Prop} {w w2 w3 : World} {b m : Nat} {br : Bool} {l : Gaps} {s : Int × Int} {y : Opn} (h : Wat F w2 b m br l) (hy : OpnAt w2 y) (hF : ∀ c, F c → c < w.heap.size) (yo : w.heap.size ≤ y.o) (yr : w.heap.size ≤ y.r) (hk : Keeps w w2 F) (hM : Mp slotM w3 m (putL l s y)) (ht : w2.mapTurned w3 m) :
    Wat (fun c => F c ∨ (w.heap.size ≤ c ∧ c < w3.heap.size)) w3 b m br (putL l s y) ∧ Keeps w w3 F := by
  have k3 : Keeps w2 w3 fun c => c = m := (Keeps.of_grown ht.grown).mono fun c _ e => by simpa using e.symm
  have hyl := hy.box.lt
  have hyr := hy.row.lt
  have hz := k3.size
  refine ⟨⟨?_, hM, fun q hq => ?_, fun q hq r hr hne => ?_, Or.inl h.fb, Or.inl h.fm, fun q hq => ?_, fun c hc => ?_⟩, hk.trans k3 fun c _ e => by rw [e]; exact h.fm⟩
  · exact (k3.block _ h.box.lt fun e => h.mp.ne h.box e.symm).trans h.box
  · have : OpnAt w2 q.2 := by
      rcases mem_putL hq with rfl | ⟨hq', _⟩
      · exact hy
      · exact h.op q hq'
    exact this.keeps k3 (fun e => h.mp.ne this.box e.symm) (fun e => h.mp.ne this.row e.symm)
  · rcases mem_putL hq with rfl | ⟨hq', hqs⟩
    · rcases mem_putL hr with rfl | ⟨hr', _⟩
      · exact absurd rfl hne
      · have h1 := hF _ (h.fo r hr').1
        have h2 := hF _ (h.fo r hr').2
        exact ⟨fun e => by simp only at e; omega, fun e => by simp only at e; omega⟩
    · rcases mem_putL hr with rfl | ⟨hr', _⟩
      · have h1 := hF _ (h.fo q hq').1
        have h2 := hF _ (h.fo q hq').2
        exact ⟨fun e => by simp only at e; omega, fun e => by simp only at e; omega⟩
      · exact h.apart q hq' r hr' hne
  · rcases mem_putL hq with rfl | ⟨hq', _⟩
    · exact ⟨Or.inr ⟨yo, by simp only; omega⟩, Or.inr ⟨yr, by simp only; omega⟩⟩
    · exact ⟨Or.inl (h.fo q hq').1, Or.inl (h.fo q hq').2⟩
  · rcases hc with hc | hc
    · have := h.lt c hc
      omega
    · exact hc.2
def OPost (F : Nat → Prop) (w : World) (b m : Nat) (br : Bool) (l : Gaps) (a lvl t p f : Int) (old : Nat) (e : Ending) (w' : World) : Prop :=
  e = .returned .nilIface ∧ ∃ y : Opn, y.asid = a ∧ y.first = f ∧ y.last = old ∧ y.told = List.replicate (manyN lvl) false ∧ Wat (fun c => F c ∨ (w.heap.size ≤ c ∧ c < w'.heap.size)) w' b m br (putL l (t, p) y) ∧ Keeps w w' F
section
variable {F : Nat → Prop} {w : World} {b m : Nat} {br : Bool} {l : Gaps}
def OpRun (F : Nat → Prop) (w : World) (b m : Nat) (br : Bool) (l : Gaps) (a lvl t p f : Int) (old g : Nat) (e : Ending) (w2 : World) : Prop :=
  ∃ (y : Opn) (w3 : World), e = .returned (.pointer (some ⟨y.o, 0, none⟩)) ∧ (Instr.mapUpdate 44 (.map (some m)) (.agg #[.int .i64 t, .int .i64 p]) (.pointer (some ⟨y.o, 0, none⟩))).run Try.prog w2 = .ok () w3 ∧
    (w2.cell? ⟨b, 0, none⟩ = some (.map (some m)) ∧ w2.cell? ⟨g, 0, none⟩ = some (.int .i64 t) ∧ w2.cell? ⟨g, 1, none⟩ = some (.int .i64 p)) ∧ (w3.cell? ⟨b, 0, none⟩ = some (.map (some m)) ∧ w3.cell? ⟨g, 0, none⟩ = some (.int .i64 t) ∧ w3.cell? ⟨g, 1, none⟩ = some (.int .i64 p)) ∧
    Hid (OPost F w b m br l a lvl t p f old (.returned .nilIface) w3)
theorem open_run {W : World} {a lvl t p f : Int} {old g : Nat} (h0 : Wat F W b m br l) (hk0 : Keeps w W F) (hL0 : Laid W g 53 #[.int .i64 t, .int .i64 p]) (hF : ∀ c, F c → c < w.heap.size) (hok : slotOk (t, p))
    (hop : ∀ w, Calls Try.prog 24 #[.int .i64 a, .int .i64 lvl, .int .i64 f, .int .u64 old] w (OpenPost a lvl f old w)) :
    Calls Try.prog 24 #[.int .i64 a, .int .i64 lvl, .int .i64 f, .int .u64 old] W.drew (OpRun F w b m br l a lvl t p f old g) := by
  refine (hop _).mono ?_
  rintro e w2 ⟨y, rfl, hy, ya, yf, yl, yt, yo, yr, hb2⟩
  have W2 := h0.drew.below hb2
  obtain ⟨w3, hrun, hM3, hT3⟩ := W2.mp.store hok y
  have L2 : Laid w2 g 53 #[.int .i64 t, .int .i64 p] := (hb2.block g hL0.lt).trans hL0
  have hk2 : Keeps w w2 F := hk0.drew.trans (Keeps.of_below hb2 F) fun _ _ e => e
  obtain ⟨W3, K3⟩ := W2.opened hy hF (Nat.le_trans hk0.size yo) (Nat.le_trans hk0.size yr) hk2 hM3 hT3
  have L3 : Laid w3 g 53 #[.int .i64 t, .int .i64 p] := L2.kept hT3.grown (fun e => W2.mp.ne L2 (by simpa using e.symm))
  exact ⟨y, w3, rfl, hrun, ⟨W2.cells.1, (L2.cell 0).trans rfl, (L2.cell 1).trans rfl⟩, ⟨W3.cells.1, (L3.cell 0).trans rfl, (L3.cell 1).trans rfl⟩, ⟨rfl, y, ya, yf, yl, yt, W3, K3⟩⟩
set_option maxHeartbeats 4000000 in
theorem write_open (h : Wat F w b m br l) (a lvl t p f : Int) (old new : Nat) (hold : old < 18446744073709551616) (hnew : new < 18446744073709551616) (hm : mayW a lvl t p f = true) (v1 : validB old = true) (v2 : validB new = false) :
    Calls Try.prog 9 #[.pointer (some ⟨b, 0, none⟩), .int .i64 a, .int .i64 lvl, .int .i64 t, .int .i64 p, .int .i64 f, .int .u64 old, .int .u64 new] w (OPost F w b m br l a lvl t p f old) := by
  obtain ⟨hp, hl, hlv, a0, a1, t0, t1, p0, p1, f0, f1⟩ := mayW_true hm
  have hch := fun w => change_yes lvl old new w hold hnew hlv
  have hvo := fun w => isValid_any old w hold
  have hvn := fun w => isValid_any new w hnew
  have HW : Hid (Wat F w b m br l) := h
  have hc : changeB lvl old new = true := by
    have : new % 2 = 0 := by simp only [validB, decide_eq_false_iff_not] at v2; omega
    simp [changeB, plainB, this]
  rw [hc] at hch
  rw [v1] at hvo
  rw [v2] at hvn
  have hop := fun w => opened_any a lvl f old w hlv f0 (by omega) hold
  have hok : slotOk (t, p) := ⟨⟨by omega, by omega⟩, by omega, by omega⟩
  have HOK : Hid (slotOk (t, p)) := hok
  have HOP : Hid _ := hop
  have HLT : Hid _ := h.lt
  clear h hm hc hold hnew a0 a1 t0 t1 p0 p1 f0 f1 v1 v2 hok hop
  go_enter Try.func9, Try.ntmps9
  go_wp2_with (first | (go_at_call 20; refine (mayPlace_any _ _ _).mono ?_; rintro e w1 ⟨rfl, hw⟩; obtain rfl := hw.symm; clear hw) | (go_at_call 21; refine (mayLead_any _ _ _ _).mono ?_; rintro e w1 ⟨rfl, hw⟩; obtain rfl := hw.symm; clear hw))
  refine (hch _).mono ?_
  rintro e w1 ⟨rfl, hb1⟩
  have W1 := HW.out.below hb1
  have K1 : Keeps w w1 F := Keeps.of_below hb1 F
  have hz1 := hb1.size
  obtain ⟨c0, c1, z1⟩ := W1.cells
  have hbz := W1.box.lt
  have HW1 : Hid (Wat F w1 b m br l) := W1
  have HK1 : Hid (Keeps w w1 F) := K1
  clear hb1 hch HW W1 K1
  go_wp2_with (first | (go_at_call 23; first | (refine (hvo _).mono ?_; rintro e w5 ⟨rfl, hw⟩; obtain rfl := hw.symm; clear hw) | (refine (hvn _).mono ?_; rintro e w5 ⟨rfl, hw⟩; obtain rfl := hw.symm; clear hw)))
  obtain ⟨W, hW⟩ : ∃ W, W = w1.alloc (.cells #[.int .i64 t, .int .i64 p] 53) := ⟨_, rfl⟩
  have hb0 : Below w1.heap.size w1 W := by rw [hW]; exact (Below.refl _ _).alloc (Nat.le_refl _) _
  have W0 : Wat F W b m br l := HW1.out.below hb0
  have K0 : Keeps w W F := HK1.out.trans (Keeps.of_below hb0 F) fun _ _ e => e
  have L0 : Laid W w1.heap.size 53 #[.int .i64 t, .int .i64 p] := by rw [hW]; exact Laid.new _ _ _
  rw [← hW]
  clear hW hb0 c0 c1 z1 HW1 HK1
  obtain ⟨c0, -, -⟩ := W0.cells
  generalize w1.heap.size = g at *
  have q0 : W.cell? ⟨g, 0, none⟩ = some (.int .i64 t) := by rw [L0.cell]; rfl
  have q1 : W.cell? ⟨g, 1, none⟩ = some (.int .i64 p) := by rw [L0.cell]; rfl
  have HW0 : Hid (Wat F W b m br l) := W0
  have HK0 : Hid (Keeps w W F) := K0
  have HL0 : Hid (Laid W g 53 #[.int .i64 t, .int .i64 p]) := L0
  clear W0 K0 L0 hz1 hbz hvo hvn
  have hrun0 := open_run HW0.out HK0.out HL0.out HLT.out HOK.out HOP.out
  clear HOP HW0 HK0 HL0 HLT HOK
  go_region_held3 (fun w' => w'.cell? ⟨b, 0, none⟩ = some (.map (some m)) ∧ w'.cell? ⟨g, 0, none⟩ = some (.int .i64 t) ∧ w'.cell? ⟨g, 1, none⟩ = some (.int .i64 p)) (go_keep) (first | (go_at_call 24; refine hrun0.mono ?_; rintro e w2 ⟨y, w3, rfl, hrun, ⟨d0, d1, d2⟩, ⟨g0, g1, g2⟩, HF⟩))
  go_wp2
  go_ret
  exact HF.out
end
end Go.Proofs.Ytjijgpdfoilijaa
