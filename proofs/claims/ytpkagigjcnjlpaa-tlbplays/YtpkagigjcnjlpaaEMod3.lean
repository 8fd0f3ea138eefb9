/- The document's Fill. -/
import Derived.Test.YtpkagigjcnjlpaaEApp
import Derived.Deep.CutRange
namespace Go.Proofs.Ytpkagigjcnjlpaa
open Go.RowKit

theorem has_at {l : List Ent} {x : Ent} {j : Nat} (hj : j < l.length) (h : eqE (l.getD j Ent.zero) x = true) : hasB l x = true := by
  unfold hasB
  rw [List.any_eq_true]
  exact ⟨_, mem_getD l j hj, by rw [eqE_comm]; exact h⟩
theorem has_none {l : List Ent} {x : Ent} (h : ∀ y ∈ l, eqE y x = false) : hasB l x = false := by
  unfold hasB
  rw [List.any_eq_false]
  intro y hy
  rw [eqE_comm, h y hy]
  simp

/-- A row of entries that is only read: at any place of its block. -/
def SRow (w : World) (q : Nat) (ao : Option Addr) (n c : Nat) (l : List Ent) : Prop :=
  l.length = n ∧ (ao = none → n = 0 ∧ c = 0) ∧ ∀ ad, ao = some ad → ∃ g off, ad = ⟨g, off, none⟩ ∧ g < w.heap.size ∧ g ≠ q ∧ ∀ j, j < n → ∀ t, t < 6 → w.cell? ⟨g, off + j * 6 + t, none⟩ = (ecells (l.getD j Ent.zero))[t]?
theorem SRow.news {w W : World} {q : Nat} {ao : Option Addr} {n c : Nat} {l : List Ent} (h : SRow w q ao n c l) (hb : ∀ b, b < w.heap.size → b ≠ q → W.heap[b]? = w.heap[b]?) : ∀ ad, ao = some ad → ∀ j u, (ecs l)[j]? = some u → W.cell? (ad.add j) = some u := by
  intro ad e j u hj
  obtain ⟨h1, _, h3⟩ := h
  obtain ⟨g, off, rfl, hg, hne, hc⟩ := h3 ad e
  have hjl : j < l.length * 6 := by
    have := (List.getElem?_eq_some_iff.1 hj).1
    rwa [ecs_len] at this
  rw [Addr.add_lit, World.cell?_of_block (w := w) (w' := W) (a := ⟨g, off + j, none⟩) (hb g hg hne), show off + j = off + j / 6 * 6 + j % 6 by omega, hc _ (by omega) _ (by omega), ← ecs_at l (j / 6) (j % 6) (by omega) (by omega), show j / 6 * 6 + j % 6 = j by omega]
  exact hj
theorem SRow.at {w W : World} {q : Nat} {ao : Option Addr} {n c : Nat} {l : List Ent} (h : SRow w q ao n c l) (hb : ∀ b, b < w.heap.size → b ≠ q → W.heap[b]? = w.heap[b]?) {j : Nat} (hj : j < n) : ∃ g off, ao = some ⟨g, off, none⟩ ∧ g < w.heap.size ∧ g ≠ q ∧ W.cell? ⟨g, off + j * 6, none⟩ = some (.int .i64 (l.getD j Ent.zero).asid) ∧ W.cell? ⟨g, off + j * 6 + 1, none⟩ = some (.int .i64 (l.getD j Ent.zero).first) ∧ W.cell? ⟨g, off + j * 6 + 2, none⟩ = some (.int .i64 (l.getD j Ent.zero).order) ∧ W.cell? ⟨g, off + j * 6 + 3, none⟩ = some (.int .i64 (l.getD j Ent.zero).base) ∧ W.cell? ⟨g, off + j * 6 + 4, none⟩ = some (.bool (l.getD j Ent.zero).writ) ∧ W.cell? ⟨g, off + j * 6 + 5, none⟩ = some (.bool (l.getD j Ent.zero).exe) := by
  obtain ⟨h1, h2, h3⟩ := h
  cases ao with
  | none => have := h2 rfl; omega
  | some ad =>
    obtain ⟨g, off, rfl, hg, hne, hc⟩ := h3 ad rfl
    have hW : ∀ o, W.cell? ⟨g, o, none⟩ = w.cell? ⟨g, o, none⟩ := fun o => World.cell?_of_block (w := w) (w' := W) (a := ⟨g, o, none⟩) (hb g hg hne)
    exact ⟨g, off, rfl, hg, hne, (hW _).trans (hc j hj 0 (by omega)), (hW _).trans (hc j hj 1 (by omega)), (hW _).trans (hc j hj 2 (by omega)), (hW _).trans (hc j hj 3 (by omega)), (hW _).trans (hc j hj 4 (by omega)), (hW _).trans (hc j hj 5 (by omega))⟩
theorem Mod.srow {B : Nat} {w : World} {q : Nat} {ao : Option Addr} {n c : Nat} {l : List Ent} {k : Bool} (m : Mod B w q (.slice ao n c) l k) : SRow w q ao n c l := by
  rcases m.row.cases' with ⟨e, rfl⟩ | ⟨g, c', cur, e, _, hg0, hg, _, _, _, hh⟩
  · cases e
    exact ⟨rfl, fun _ => ⟨rfl, rfl⟩, fun ad h => (by cases h)⟩
  · cases e
    refine ⟨rfl, fun h => (by cases h), fun ad h => ?_⟩
    cases h
    refine ⟨g, 0, rfl, hg0, fun e => ne_of_tag m.ptr hg (by decide) e.symm, fun j hj t ht => ?_⟩
    rw [Nat.zero_add, cell_of_row w g _ cur _ _ hg]
    exact hh j hj t ht
theorem SRow.tail {w : World} {q g c : Nat} {l : List Ent} (h : SRow w q (some ⟨g, 0, none⟩) l.length c l) (h0 : 0 < l.length) : SRow w q (some ⟨g, 6, none⟩) (l.length - 1) (c - 1) (without l 0) := by
  obtain ⟨_, _, h3⟩ := h
  obtain ⟨g', off, e, hg, hne, hc⟩ := h3 _ rfl
  cases e
  refine ⟨without_len l 0 h0, fun h => (by cases h), fun ad e => ?_⟩
  cases e
  refine ⟨g, 6, rfl, hg, hne, fun j hj t ht => ?_⟩
  rw [show 6 + j * 6 + t = 0 + (j + 1) * 6 + t by omega, hc (j + 1) (by omega) t ht, without_ge l 0 j h0 (by omega)]

theorem news_one {W : World} {b : Nat} {x : Ent} (h : Laid W b 26 (ecells x)) : ∀ ad : Addr, some (⟨b, 0, none⟩ : Addr) = some ad → ∀ j u, (ecs [x])[j]? = some u → W.cell? (ad.add j) = some u := by
  intro ad e j u hj
  cases e
  exact World.news_of_block h j u (by simpa [ecs] using hj)
theorem MStep.set {w W : World} {q : Nat} {u : Value} (h : MStep w W q u u) (o : Nat) (v : Value) : MStep w (W.setCell ⟨q, o, none⟩ v) q u u := by
  have h2 := grown_set W q o v
  exact ⟨h2.os.trans h.os, h2.tape.trans h.tape, h2.output.trans h.output, Nat.le_trans h.size h2.size, fun b hlt hne => (h2.block b (Nat.lt_of_lt_of_le hlt h.size) (by simpa using hne)).trans (h.block b hlt hne), Or.inl rfl⟩
theorem MStep.post {w W w' : World} {q : Nat} {u u' : Value} (h : MStep w W q u u') (hb : Below W.heap.size W w') : MStep w w' q u u' :=
  ⟨hb.os.trans h.os, hb.tape.trans h.tape, hb.output.trans h.output, Nat.le_trans h.size hb.size, fun b hlt hne => (hb.block b (Nat.lt_of_lt_of_le hlt h.size)).trans (h.block b hlt hne), h.own⟩
theorem Mod.fin {B : Nat} {w W : World} {q C : Nat} {u u3 u' : Value} {l' : List Ent} {kk : Bool} (hBq : B ≤ q) (hqw : q < w.heap.size) (hq : Laid W q 41 #[u3, .bool kk]) (h : Own C W u' l') (hC : w.heap.size ≤ C) (ms : MStep w W q u u) :
    Mod B (W.setCell ⟨q, 0, none⟩ u') q u' l' kk ∧ MStep w (W.setCell ⟨q, 0, none⟩ u') q u u' := by
  have h2 := grown_set W q 0 u'
  refine ⟨⟨hBq, ?_, ?_⟩, ?_⟩
  · have := heap_setCell_same W q 0 _ _ u' hq
    simpa [Laid] using this
  · refine (h.lower (by omega)).kept h2 (Or.inr fun e => ?_)
    have := (World.ownsRow.lt h q e).1
    omega
  · have h3 := ms.set 0 u'
    exact ⟨h3.os, h3.tape, h3.output, h3.size, h3.block, Or.inr fun g hg => Nat.le_trans hC (World.ownsRow.lt h g hg).1⟩
theorem Laid.put1 {W : World} {q : Nat} {u3 : Value} {kk : Bool} (h : Laid W q 41 #[u3, .bool kk]) (r : Bool) : Laid (W.setCell ⟨q, 1, none⟩ (.bool r)) q 41 #[u3, .bool r] := by
  have := heap_setCell_same W q 1 _ _ (.bool r) h
  simpa [Laid] using this
theorem Laid.put0 {W : World} {q : Nat} {u3 u4 : Value} {kk : Bool} (h : Laid W q 41 #[u3, .bool kk]) : Laid (W.setCell ⟨q, 0, none⟩ u4) q 41 #[u4, .bool kk] := by
  have := heap_setCell_same W q 0 _ _ u4 h
  simpa [Laid] using this
theorem Laid.set_other {W : World} {q d o : Nat} {t : TypeId} {cs : Array Value} {v : Value} (h : Laid W d t cs) (hne : d ≠ q) : Laid (W.setCell ⟨q, o, none⟩ v) d t cs := h.kept (grown_set W q o v) (by simpa using hne)

/-- Behind the cut: the row that is left, and how the buffer stands. -/
def FillMid (w W : World) (q : Nat) (u : Value) (k : Bool) (x : Ent) (lc : List Ent) (ao3 : Option Addr) (n3 c3 : Nat) (l3 : List Ent) : Prop :=
  lc = l3 ∧ n3 ≤ 63 ∧ Laid W q 41 #[.slice ao3 n3 c3, .bool k] ∧ Laid W w.heap.size 26 (ecells x) ∧ MStep w W q u u ∧ SRow w q ao3 n3 c3 l3 ∧ ∀ y ∈ l3, mayB y = true ∧ y.base ≤ 9223372036854775807
/-- 'append([]T{}, xs...)' as a step of a region that draws. -/
theorem step_new {ops : Array Oper} {o : Oper} {a : Act} {w : World} {K : Act → World → Prop} {Q : Exit → Act → World → Prop} {E : Prop} (wr : World) (hgd : o.guard = none) (s x : Operand)
    (ho : o.op = .call { callee := .builtin .append, args := #[s, x], argTypes := #[39, 39] })
    (base H : Nat) (l2 : List Ent) (hs : a.eval s = .slice (some ⟨H, 0, none⟩) 0 0) (hbH : base ≤ H) (hH : w.heap[H]? = some (.cells #[] 26 (0, 0))) (hb : Below base wr w) (hbase : base ≤ w.heap.size) (ao : Option Addr) (m c : Nat) (hx : a.eval x = .slice ao m c) (hm : l2.length = m) (hnone : ao = none → m = 0 ∧ c = 0)
    (hc : ∀ ad, ao = some ad → ∀ j u, (ecs l2)[j]? = some u → w.cell? (ad.add j) = some u) (h64 : m ≤ 1000)
    (h : ∀ g c' w', Own base w' (.slice (some ⟨g, 0, none⟩) l2.length c') l2 → Below base wr w' → (∀ b t cs, Laid w b t cs → b ≠ H → Laid w' b t cs) → K (a.put o.dst (.slice (some ⟨g, 0, none⟩) l2.length c')) w') :
    if Region.wanted o (yielded ops a.tmps) = true then Oper.wp Try.prog o a w K Q else E := by
  refine step_gen hgd s x ho base H 0 [] l2 hs ⟨rfl, Or.inr ⟨H, 0, #[], rfl, hbH, hH, Nat.le_refl _, Nat.zero_le _, rfl, rfl⟩⟩ ao m c hx hm hnone hc (by simpa using h64) hbase ?_
  intro g c' w' hown hg
  exact h g c' w' hown (below_row hb hbase hg hbH) (fun b t cs hl hne => hl.kept hg (by simpa using hne))
theorem heap_news1 (W : World) (o : Obj) : (W.alloc o).heap[W.heap.size]? = some o := heap_alloc_new W o
theorem heap_news2 (W : World) (o o' : Obj) : ((W.alloc o).alloc o').heap[W.heap.size]? = some o := (Below.heap_alloc _ _ _ (by simp)).trans (heap_alloc_new W o)

set_option maxRecDepth 100000 in
set_option maxHeartbeats 4000000 in
theorem refFill_any {B : Nat} {w : World} {q : Nat} {u : Value} {l : List Ent} {k : Bool} (m : Mod B w q u l k) (hlen : l.length ≤ 64) (hmay : ∀ x ∈ l, mayB x = true ∧ x.base ≤ 9223372036854775807) (x : Ent) (hx : mayB x = true ∧ x.base ≤ 9223372036854775807) :
    Calls Try.prog 18 #[.pointer (some ⟨q, 0, none⟩), ev x] w (ModPost B w q u (fillL l x) (fillK l k x)) := by
  have hp := m.ptr.lt
  have B1 : Below w.heap.size w (w.alloc (.cells (ecells x) 26)) := (Below.refl _ _).alloc (Nat.le_refl _) _
  have X1 := Laid.new w 26 (ecells x)
  have H0 : Hid (Below w.heap.size w (w.alloc (.cells (ecells x) 26)) ∧ Laid (w.alloc (.cells (ecells x) 26)) w.heap.size 26 (ecells x)) := And.intro B1 X1
  have HM : Hid _ := hmay
  have hne : q ≠ w.heap.size := by omega
  obtain ⟨ao, c, rfl⟩ := m.row.form
  have HR : Hid (Mod B w q (.slice ao l.length c) l k) := m
  clear B1 X1 hmay m
  unfold ev
  go_enter Try.func18, Try.ntmps18
  go_wp2_with fail
  go_loopw [4] (fun i W => ∃ j : Nat, j ≤ l.length ∧ i = .int .i64 j ∧ Hid (∀ y ∈ l.take j, eqE y x = false) ∧ Hid (Laid W w.heap.size 26 (ecells x)) ∧ Hid (Below w.heap.size w W)) (fun i _ => l.length - (intOf i).toNat)
  case atStart => exact ⟨0, by omega, rfl, by simp [Hid], H0.out.2, H0.out.1⟩
  case round =>
    obtain ⟨j, hj, rfl, hno, hX, L⟩ := hrel
    clear H0
    have b0 : wr.cell? ⟨q, 0, none⟩ = some (.slice ao l.length c) := ((bcell L.out).1 q 0 hp).trans HR.out.cells.1
    obtain ⟨x0, x1, x2, x3, x4, x5⟩ := hX.out.ent
    by_cases hlt : j < l.length
    · have hltz : (j : Int) < (l.length : Int) := by omega
      obtain ⟨g, rfl, -, c0, c1, c2, c3, c4, c5⟩ := (HR.out.row.below L.out).at hlt
      have htk := take_snoc l j hlt
      have he := eql_ent (l.getD j Ent.zero) x
      have hhas := has_at (x := x) hlt
      generalize l.getD j Ent.zero = y at *
      have HT : Hid _ := htk
      have HA : Hid _ := hhas
      clear htk hhas
      unfold ev at he
      cases hq : eqE y x with
      | true =>
        rw [hq] at he
        have HQ : Hid (eqE y x = true) := hq
        clear hq HM
        go_wp2_with fail
        go_quiet (fail)
        go_wp2
        first | go_end0 | (refine bodyPost_ret (results_none rfl _ _ _) rfl ?_)
        refine ⟨rfl, _, ?_, MStep.of_below (below_drewN L.out _) q _⟩
        unfold fillL fillK
        rw [if_pos (HA.out HQ.out), if_pos (HA.out HQ.out)]
        exact HR.out.below (below_drewN L.out _)
      | false =>
        rw [hq] at he
        have HQ : Hid (eqE y x = false) := hq
        clear hq HM
        go_wp2_with fail
        go_quiet (fail)
        go_wp2
        go_roundw
        case rel => exact ⟨j + 1, by omega, by go_num, by
          intro z hz
          rw [HT.out] at hz
          rcases List.mem_append.1 hz with h | h
          · exact hno.out z h
          · simp at h
            rw [h]
            exact HQ.out, hX, below_drewN L.out _⟩
        case measure => simp [intOf]; omega
    · obtain rfl : j = l.length := by omega
      have hltz : ¬ (l.length : Int) < (l.length : Int) := by omega
      have hno' : hasB l x = false := has_none (by simpa [Hid] using hno.out)
      have HF : Hid (fillL l x = cut64 l ++ [x] ∧ fillK l k x = (k || clashes (cut64 l) x)) := by
        unfold fillL fillK
        rw [hno']
        exact ⟨rfl, rfl⟩
      have hz0 : wr.frozen? ⟨q, 0, none⟩ = false := ((bcell L.out).2 q 0 hp).trans (HR.out.ptr.frozen 0)
      clear hno hno'
      go_upto_if 30 with fail
      go_cut [] from 25 to 38 (fun W => ∃ ao3 n3 c3 l3, Hid (FillMid w W q (.slice ao l.length c) k x (cut64 l) ao3 n3 c3 l3))
      case first =>
        by_cases h64 : l.length = 64
        · have h64z : ((l.length : Int) == 64) = true := by simp; omega
          rcases HR.out.row.cases' with ⟨_, hnil⟩ | ⟨g, c', cur, hv, hB0, hg0, hg, hlc, hcm, hs, hd⟩
          · rw [hnil] at h64
            simp at h64
          obtain rfl : ao = some ⟨g, 0, none⟩ := by cases hv; rfl
          obtain rfl : c = c' := by cases hv; rfl
          have hc1 : ¬ c = 1 := by omega
          have h1l : (1 : Int) ≤ (l.length : Int) := by omega
          have hSR0 : SRow w q (some ⟨g, 6, none⟩) (l.length - 1) (c - 1) (without l 0) := (HR.out.srow).tail (by omega)
          have hcu : cut64 l = without l 0 := by simp [cut64, h64]
          have hwm : ∀ y ∈ without l 0, mayB y = true ∧ y.base ≤ 9223372036854775807 := fun y hy => HM.out y (without_mem hy)
          have H3 : Hid (FillMid w (wr.setCell ⟨q, 0, none⟩ (.slice (some ⟨g, 6, none⟩) (l.length - 1) (c - 1))) q (.slice (some ⟨g, 0, none⟩) l.length c) k x (cut64 l) (some ⟨g, 6, none⟩) (l.length - 1) (c - 1) (without l 0)) :=
            ⟨hcu, by omega, (HR.out.ptr.below L.out).put0, hX.out.set_other (by omega), (MStep.of_below L.out q _).set 0 _, hSR0, hwm⟩
          clear hv hg hs hd hcm hSR0 hcu hwm HR HM hX L h64
          go_wp2_with fail
          go_meet
          exact ⟨_, _, _, _, H3⟩
        · have h64z : ((l.length : Int) == 64) = false := by simp; omega
          have H3 : Hid (FillMid w wr q (.slice ao l.length c) k x (cut64 l) ao l.length c l) :=
            ⟨by simp [cut64, h64], by omega, HR.out.ptr.below L.out, hX.out, MStep.of_below L.out q _, HR.out.srow, HM.out⟩
          clear h64 HR HM hX L
          go_wp2_with fail
          go_meet
          exact ⟨_, _, _, _, H3⟩
      case rest =>
      obtain ⟨ao3, n3, c3, l3, H3⟩ := hcut
      have hBq := HR.out.base
      have hn3 : n3 ≤ 63 := H3.out.2.1
      clear HR HM hX L hz0 b0 x0 x1 x2 x3 x4 x5
      generalize hUU : (Value.slice ao l.length c) = UU at *
      clear hUU
      have hzc := H3.out.2.2.1.cell 0
      simp at hzc
      go_wp2_with fail
      go_loopw [5, 6] (fun i _ W => ∃ j : Nat, j ≤ n3 ∧ i = .int .i64 j ∧ Hid (Laid W q 41 #[(.slice ao3 n3 c3), .bool (k || clashes (l3.take j) x)]) ∧ Hid (Laid W w.heap.size 26 (ecells x)) ∧ Hid (MStep w W q UU UU)) (fun i _ _ => n3 - (intOf i).toNat)
      case atStart => exact ⟨0, Nat.zero_le _, rfl, by simpa [clashes, Hid] using H3.out.2.2.1, H3.out.2.2.2.1, H3.out.2.2.2.2.1⟩
      case round =>
        obtain ⟨j, hj, rfl, hQ, hX, hMS⟩ := hrel
        obtain ⟨hlc, -, -, -, -, hSR, hmay3⟩ := H3.out
        clear hzc
        have b0 : wr.cell? ⟨q, 0, none⟩ = some (.slice ao3 n3 c3) := hQ.out.cell 0
        obtain ⟨x0, x1, x2, x3, x4, x5⟩ := hX.out.ent
        have hqr := hQ.out.lt
        have hxr := hX.out.lt
        by_cases hlt : j < n3
        · have hltz : (j : Int) < (n3 : Int) := by omega
          obtain ⟨g', off, e3, hg1, hg2, y0, y1, y2, y3, y4, y5⟩ := hSR.at hMS.out.block hlt
          subst e3
          have hgr : g' < wr.heap.size := Nat.lt_of_lt_of_le hg1 hMS.out.size
          have hjl : j < l3.length := by rw [hSR.1]; exact hlt
          have hC := fun w => refClash_any (l3.getD j Ent.zero) x w (hmay3 _ (mem_getD l3 j hjl)).1 hx.1 (hmay3 _ (mem_getD l3 j hjl)).2 hx.2
          have htk := take_snoc l3 j hjl
          generalize l3.getD j Ent.zero = y at *
          have HT : Hid (clashes (l3.take (j + 1)) x = (clashes (l3.take j) x || clashB y x)) := by rw [htk]; exact clashes_snoc _ _ _
          generalize clashB y x = r at *
          clear htk hSR hmay3 hlc
          unfold ev at hC
          go_wp2_with fail
          go_region_held3 (fun w' => w'.cell? ⟨q, 0, none⟩ = some (.slice (some ⟨g', off, none⟩) n3 c3) ∧ w'.cell? ⟨g', off + j * 6, none⟩ = some (.int .i64 y.asid) ∧ w'.cell? ⟨g', off + j * 6 + 1, none⟩ = some (.int .i64 y.first) ∧ w'.cell? ⟨g', off + j * 6 + 2, none⟩ = some (.int .i64 y.order) ∧ w'.cell? ⟨g', off + j * 6 + 3, none⟩ = some (.int .i64 y.base) ∧ w'.cell? ⟨g', off + j * 6 + 4, none⟩ = some (.bool y.writ) ∧ w'.cell? ⟨g', off + j * 6 + 5, none⟩ = some (.bool y.exe) ∧ w'.cell? ⟨w.heap.size, 0, none⟩ = some (.int .i64 x.asid) ∧ w'.cell? ⟨w.heap.size, 1, none⟩ = some (.int .i64 x.first) ∧ w'.cell? ⟨w.heap.size, 2, none⟩ = some (.int .i64 x.order) ∧ w'.cell? ⟨w.heap.size, 3, none⟩ = some (.int .i64 x.base) ∧ w'.cell? ⟨w.heap.size, 4, none⟩ = some (.bool x.writ) ∧ w'.cell? ⟨w.heap.size, 5, none⟩ = some (.bool x.exe)) (go_keep) (first | (go_at_call 13; refine (hC _).mono ?_; rintro e w4 ⟨rfl, hb4⟩; have hc4 : ∀ o, w4.cell? ⟨g', o, none⟩ = wr.cell? ⟨g', o, none⟩ := fun o => (bcell hb4).1 _ _ hgr; have hc5 : ∀ o, w4.cell? ⟨q, o, none⟩ = wr.cell? ⟨q, o, none⟩ := fun o => (bcell hb4).1 _ _ hqr; have hc6 : ∀ o, w4.cell? ⟨w.heap.size, o, none⟩ = wr.cell? ⟨w.heap.size, o, none⟩ := fun o => (bcell hb4).1 _ _ hxr))
          have hb5 : Below wr.heap.size wr w4 := ⟨hb4.os, hb4.tape, hb4.output, hb4.size, hb4.block⟩
          have Q4 := hQ.out.below hb5
          have X4 := hX.out.below hb5
          have M4 := hMS.out.post hb5
          clear hb4 hc4 hc5 hc6 hb5 x0 x1 x2 x3 x4 x5 y0 y1 y2 y3 y4 y5 b0 hC hQ hX hMS
          obtain ⟨kk, hkk⟩ : ∃ kk, (k || clashes (l3.take j) x) = kk := ⟨_, rfl⟩
          rw [hkk] at Q4
          have HKK : Hid ((k || clashes (l3.take j) x) = kk) := hkk
          clear hkk
          have p1 : w4.cell? ⟨q, 1, none⟩ = some (.bool kk) := Q4.cell 1
          have z1 := Q4.frozen 1
          have H4 : Hid (Laid w4 q 41 #[(.slice (some ⟨g', off, none⟩) n3 c3), .bool kk] ∧ Laid w4 w.heap.size 26 (ecells x) ∧ MStep w w4 q UU UU) := ⟨Q4, X4, M4⟩
          clear Q4 X4 M4
          cases kk
          · go_wp2
            go_roundw
            case rel => exact ⟨j + 1, by omega, by go_num, by
              show Laid _ _ _ _
              rw [HT.out, ← Bool.or_assoc, HKK.out, Bool.false_or]
              exact H4.out.1.put1 r, H4.out.2.1.set_other (by omega), H4.out.2.2.set 1 (.bool r)⟩
            case measure => simp [intOf]; omega
          · go_wp2
            go_roundw
            case rel => exact ⟨j + 1, by omega, by go_num, by
              show Laid _ _ _ _
              rw [HT.out, ← Bool.or_assoc, HKK.out, Bool.true_or]
              exact H4.out.1.put1 true, H4.out.2.1.set_other (by omega), H4.out.2.2.set 1 (.bool true)⟩
            case measure => simp [intOf]; omega
        · obtain rfl : j = n3 := by omega
          have hltz : ¬ (j : Int) < (j : Int) := by omega
          have hz1 := hQ.out.frozen 0
          have htl : l3.take j = l3 := by rw [← hSR.1]; exact List.take_length
          go_wp2_with fail
          have HSR : Hid (SRow w q ao3 j c3 l3) := hSR
          have hd : Below wr.heap.size wr wr.drew := (Below.refl wr.heap.size wr).drew
          have hnews : ∀ W : World, Below wr.heap.size wr W → ∀ ad : Addr, ao3 = some ad → ∀ j u, (ecs l3)[j]? = some u → W.cell? (ad.add j) = some u := fun W hb =>
            HSR.out.news fun b hlt hne => (hb.block b (Nat.lt_of_lt_of_le hlt hMS.out.size)).trans (hMS.out.block b hlt hne)
          have H5 : Hid (Laid wr q 41 #[(.slice ao3 j c3), .bool (k || clashes l3 x)] ∧ MStep w wr q UU UU ∧ cut64 l = l3) := by
            have h := hQ.out
            rw [htl] at h
            exact ⟨h, hMS.out, hlc⟩
          have HN : Hid _ := hnews
          have HD : Hid _ := hd
          have hl1 : l3.length = j := hSR.1
          have HL1 : Hid (l3.length = j) := hl1
          clear hQ hX hMS hd hSR hmay3 htl hnews hlc hl1
          go_region_law ((first
            | (refine step_new wr rfl (.tmp 68) (.tmp 72) rfl wr.heap.size wr.heap.size l3 rfl (Nat.le_refl _) (heap_news1 wr.drew _) (HD.out.alloc (Nat.le_refl _) _) (by simp) ao3 j c3 rfl HL1.out HSR.out.2.1 (HN.out _ (HD.out.alloc (Nat.le_refl _) _)) (by omega) ?_; intro g1 c1 w5 ho L5 hk5; have hc5 : ∀ o, w5.cell? ⟨q, o, none⟩ = wr.cell? ⟨q, o, none⟩ := fun o => (bcell L5).1 _ _ hqr; have hc6 : ∀ o, w5.cell? ⟨w.heap.size, o, none⟩ = wr.cell? ⟨w.heap.size, o, none⟩ := fun o => (bcell L5).1 _ _ hxr)
            | (refine step_new wr rfl (.tmp 68) (.tmp 72) rfl wr.heap.size wr.heap.size l3 rfl (Nat.le_refl _) (heap_news2 wr.drew _ _) ((HD.out.alloc (Nat.le_refl _) _).alloc (by simp) _) (by simp; omega) ao3 j c3 rfl HL1.out HSR.out.2.1 (HN.out _ ((HD.out.alloc (Nat.le_refl _) _).alloc (by simp) _)) (by omega) ?_; intro g1 c1 w5 ho L5 hk5; have X5 : Laid w5 (wr.heap.size + 1) 26 (ecells x) := hk5 _ _ _ (heap_alloc2_new wr.drew _ _) (Nat.succ_ne_self _); have hc5 : ∀ o, w5.cell? ⟨q, o, none⟩ = wr.cell? ⟨q, o, none⟩ := fun o => (bcell L5).1 _ _ hqr; have hc6 : ∀ o, w5.cell? ⟨w.heap.size, o, none⟩ = wr.cell? ⟨w.heap.size, o, none⟩ := fun o => (bcell L5).1 _ _ hxr)
            | (refine step_new wr rfl (.tmp 68) (.tmp 72) rfl wr.heap.size (wr.heap.size + 1) l3 rfl (Nat.le_succ _) (heap_alloc2_new wr.drew _ _) ((HD.out.alloc (Nat.le_refl _) _).alloc (by simp) _) (by simp; omega) ao3 j c3 rfl HL1.out HSR.out.2.1 (HN.out _ ((HD.out.alloc (Nat.le_refl _) _).alloc (by simp) _)) (by omega) ?_; intro g1 c1 w5 ho L5 hk5; have X5 : Laid w5 wr.heap.size 26 (ecells x) := hk5 _ _ _ (heap_news2 wr.drew _ _) (fun e => absurd e.symm (Nat.succ_ne_self _)); have hc5 : ∀ o, w5.cell? ⟨q, o, none⟩ = wr.cell? ⟨q, o, none⟩ := fun o => (bcell L5).1 _ _ hqr; have hc6 : ∀ o, w5.cell? ⟨w.heap.size, o, none⟩ = wr.cell? ⟨w.heap.size, o, none⟩ := fun o => (bcell L5).1 _ _ hxr)
            | (refine step_gen rfl (.tmp 73) (.tmp 75) rfl wr.heap.size g1 c1 l3 [x] rfl ho (some ⟨wr.heap.size + 1, 0, none⟩) 1 1 rfl rfl (fun h => (by cases h)) (news_one X5) (by rw [HL1.out]; omega) L5.size ?_; intro g2 c2 w6 ho2 hgrow2; have L6 : Below wr.heap.size wr w6 := below_row L5 L5.size hgrow2 (World.ownsRow.lt ho g1 rfl).1; have z6 : w6.frozen? ⟨q, 0, none⟩ = false := ((bcell L6).2 q 0 hqr).trans hz1; have d5 : ∀ o, w6.cell? ⟨q, o, none⟩ = wr.cell? ⟨q, o, none⟩ := fun o => (bcell L6).1 _ _ hqr)
            | (refine step_gen rfl (.tmp 73) (.tmp 75) rfl wr.heap.size g1 c1 l3 [x] rfl ho (some ⟨wr.heap.size, 0, none⟩) 1 1 rfl rfl (fun h => (by cases h)) (news_one X5) (by rw [HL1.out]; omega) L5.size ?_; intro g2 c2 w6 ho2 hgrow2; have L6 : Below wr.heap.size wr w6 := below_row L5 L5.size hgrow2 (World.ownsRow.lt ho g1 rfl).1; have z6 : w6.frozen? ⟨q, 0, none⟩ = false := ((bcell L6).2 q 0 hqr).trans hz1; have d5 : ∀ o, w6.cell? ⟨q, o, none⟩ = wr.cell? ⟨q, o, none⟩ := fun o => (bcell L6).1 _ _ hqr)
            | (refine step_gen rfl (.tmp 73) (.tmp 75) rfl wr.heap.size g1 c1 l3 [x] rfl (ho.below ((Below.refl _ _).alloc (Nat.le_refl _) (.cells (ecells x) 26))) (some ⟨w5.heap.size, 0, none⟩) 1 1 rfl rfl (fun h => (by cases h)) (news_one (Laid.new w5 26 (ecells x))) (by rw [HL1.out]; omega) (below_call L5 L5.size ((Below.refl w5.heap.size w5).alloc (Nat.le_refl _) (.cells (ecells x) 26))).size ?_; intro g2 c2 w6 ho2 hgrow2; have L6 : Below wr.heap.size wr w6 := below_row (below_call L5 L5.size ((Below.refl w5.heap.size w5).alloc (Nat.le_refl _) (.cells (ecells x) 26))) (below_call L5 L5.size ((Below.refl w5.heap.size w5).alloc (Nat.le_refl _) (.cells (ecells x) 26))).size hgrow2 (World.ownsRow.lt ho g1 rfl).1; have z6 : w6.frozen? ⟨q, 0, none⟩ = false := ((bcell L6).2 q 0 hqr).trans hz1; have d5 : ∀ o, w6.cell? ⟨q, o, none⟩ = wr.cell? ⟨q, o, none⟩ := fun o => (bcell L6).1 _ _ hqr)))
          all_goals
            have X := Mod.fin (B := B) (w := w) (u := UU) hBq hp (H5.out.1.below L6) ho2 H5.out.2.1.size (H5.out.2.1.post L6)
            have HX : Hid (Mod B (w6.setCell ⟨q, 0, none⟩ (.slice (some ⟨g2, 0, none⟩) (l3 ++ [x]).length c2)) q (.slice (some ⟨g2, 0, none⟩) (l3 ++ [x]).length c2) (l3 ++ [x]) (k || clashes l3 x) ∧ MStep w (w6.setCell ⟨q, 0, none⟩ (.slice (some ⟨g2, 0, none⟩) (l3 ++ [x]).length c2)) q UU (.slice (some ⟨g2, 0, none⟩) (l3 ++ [x]).length c2)) := X
            have HCU : Hid (cut64 l = l3) := H5.out.2.2
            clear X ho ho2 hgrow2 H5
            go_wp2
            go_end0
            rw [HF.out.1, HF.out.2, HCU.out, show l3.length + 1 = (l3 ++ [x]).length by simp]
            exact ⟨rfl, _, HX.out.1, HX.out.2⟩
end Go.Proofs.Ytpkagigjcnjlpaa
