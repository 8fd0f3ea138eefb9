/- A clone of both worlds: what stands when. -/
import Derived.Test.YtoimmapdkapheaaJJ
import Derived.Test.YtoimmapdkapheaaFCln
import Derived.Test.YtoimmapdkapheaaFOwM
namespace Go.Proofs.Ytoimmapdkapheaa
set_option maxRecDepth 4000
open Go.RowKit

theorem Bec.see {F : Nat → Prop} {w W : World} {X : Th} (h : Bec F w X W) : ∃ G, X.In G W := by
  obtain ⟨G, h1, -⟩ := h.next
  exact ⟨G, h1⟩
theorem fmt_open {w W : World} {q : Nat} {A : Wd} {R : Th} (h : Bec (fun _ => False) w ((FmT q A).and R) W) : ∃ v T, FmOk T A ∧ Bec (fun _ => False) w ((FmX q v T).and R) W := by
  obtain ⟨F', f1, ⟨G1, G2, e1, e2, ⟨⟨v, T⟩, hT, h1⟩, h2⟩, f3⟩ := h
  exact ⟨v, T, hT, F', f1, ⟨G1, G2, e1, e2, h1, h2⟩, f3⟩
theorem fmx_le {q : Nat} {A : Wd} {v : Value} {T : Sps} (hT : FmOk T A) : (FmX q v T).le (FmT q A) := fun {_ _} k => ⟨(v, T), hT, k⟩
theorem fmt_shut {w W : World} {q : Nat} {A : Wd} {R : Th} {v : Value} {T : Sps} (hT : FmOk T A) (h : Bec (fun _ => False) w ((FmX q v T).and R) W) : Bec (fun _ => False) w ((FmT q A).and R) W :=
  h.imp (and_mono (fmx_le hT) (Th.le.refl _))
theorem take_get {T : Sps} {k j : Nat} (hj : j < k) : (T.take k).getD j zT = T.getD j zT := by
  rw [List.getD_eq_getElem?_getD, List.getD_eq_getElem?_getD, List.getElem?_take, if_pos hj]
theorem take_len {T : Sps} {k : Nat} (hk : k ≤ T.length) : (T.take k).length = k := by
  rw [List.length_take]
  omega
theorem take_none {T : Sps} (hn : nodT T) {k : Nat} (hk : k < T.length) : lkT (T.take k) (T.getD k zT).1.n = none := by
  refine (lk_none _ _).2 fun i hi e => ?_
  rw [take_len (by omega)] at hi
  rw [take_get hi] at e
  have := hn i k (by omega) hk e
  omega
theorem take_next {T : Sps} (hn : nodT T) {k : Nat} (hk : k < T.length) : lkT (T.take (k + 1)) = (lkT (T.take k)).set (T.getD k zT).1.n (some (T.getD k zT).2) := by
  rw [← lk_app _ _ (take_none hn hk), List.take_add_one]
  congr 2
  rw [List.getD_eq_getElem?_getD, List.getElem?_eq_getElem hk]
  rfl
/-- The cells that the copying region reads. -/
def ClC (w : World) (nq q g k : Nat) (v' v : Value) (x : SpV) : Prop := w.cell? ⟨nq, 0, none⟩ = some v' ∧ HdC w q g k v x
/-- The first k spaces are copied. -/
def CpS (w : World) (nq q : Nat) (v : Value) (T : Sps) (Z : Th) (k : Nat) (W : World) : Prop := Bec (fun _ => False) w ((FmT nq (lkT (T.take k))).and ((FmX q v T).and Z)) W
theorem clc_of {w : World} {nq q g k : Nat} {v' v : Value} {T' T : Sps} (h1 : ∃ G, (FmX nq v' T').In G w) (h2 : ∃ G, (FmX q v T).In G w) (hk : k < T.length) (hg : v.ownBlock = some g) : ClC w nq q g k v' v (T.getD k zT).1 := by
  obtain ⟨G1, h1⟩ := h1
  obtain ⟨G2, h2⟩ := h2
  obtain ⟨g', c', hv, hlt, hat⟩ := fm_at h2 hk
  have hgg : g' = g := by
    rw [hv] at hg
    simpa [Value.ownBlock] using hg
  subst hgg
  exact ⟨by rw [(FmX.box h1).cell]; rfl, hdc_of (by rw [(FmX.box h2).cell]; rfl) hat⟩
/-- Behind Copy: what the append and the store will leave. -/
def ClP (w : World) (nq q g k : Nat) (v' v : Value) (T : Sps) (Z : Th) (e : Ending) (w1 : World) : Prop :=
  ∃ gp cp gw cw ao n c w4, e = .returned (.agg #[.int .i64 (T.getD k zT).1.n, .slice (some ⟨gp, 0, none⟩) 4096 cp, .slice (some ⟨gw, 0, none⟩) 4096 cw]) ∧ ClC w1 nq q g k v' v (T.getD k zT).1 ∧ (∀ o, ClC (w1.alloc o) nq q g k v' v (T.getD k zT).1) ∧
    (Builtin.append_ #[27, 27] 27 #[v', .slice (some ⟨w1.heap.size, 0, none⟩) 1 1]).run Try.prog (w1.alloc (.cells #[.int .i64 (T.getD k zT).1.n, .slice (some ⟨gp, 0, none⟩) 4096 cp, .slice (some ⟨gw, 0, none⟩) 4096 cw] 59)) = .ok (.slice ao n c) w4 ∧
    ClC w4 nq q g k v' v (T.getD k zT).1 ∧ w4.frozen? ⟨nq, 0, none⟩ = false ∧ Hid (CpS w nq q v T Z (k + 1) (w4.setCell ⟨nq, 0, none⟩ (.slice ao n c)))
theorem cell_aside {w : World} {a b : Nat} (hn : b ≠ a) (o j : Nat) (u : Value) : (w.setCell ⟨a, o, none⟩ u).cell? ⟨b, j, none⟩ = w.cell? ⟨b, j, none⟩ :=
  by simp [World.cell?, heap_setCell_other w ⟨a, o, none⟩ b u hn]
theorem cl_copy {w W W1 : World} {nq q g k : Nat} {v' v : Value} {T' T : Sps} {A : Wd} {Z : Th} (h : Bec (fun _ => False) w ((FmX nq v' T').and ((FmX q v T).and Z)) W) (hT' : FmOk T' (lkT (T.take k))) (hT : FmOk T A) (hk : k < T.length) (hg : v.ownBlock = some g) (hqn : q ≠ nq) (hgn : g ≠ nq) (hW : Below W.heap.size W W1) :
    Calls Try.prog 21 #[.agg #[.int .i64 (T.getD k zT).1.n, (T.getD k zT).1.vp, (T.getD k zT).1.vw], .int .i64 (T.getD k zT).1.n] W1 (ClP w nq q g k v' v T Z) := by
  have e := lk_at T hT.nod k hk
  rw [hT.eq] at e
  obtain ⟨hn, hs⟩ := hT.ok _ _ e
  have hx := take_none hT.nod hk
  obtain ⟨Gq, hq⟩ := h.right.left.see
  obtain ⟨s1, s2⟩ := fm_see hq hk
  refine (copy_any (s1.below hW) (s2.below hW) (T.getD k zT).1.n).mono fun e w1 hp => ?_
  obtain ⟨gp, cp, gw, cw, rfl, hb⟩ := hp
  have h1 := (h.below hW).new hb
  obtain ⟨G2, g2, cl2⟩ := (h1.imp (and_assoc' _ _ _)).open
  obtain ⟨v2, w4, hpu⟩ := fm_push (x := ⟨(T.getD k zT).1.n, gp, cp, gw, cw⟩) (Bec.refl g2) hT' hn hs hx
  obtain ⟨ao, n, c, rfl⟩ := hpu.form
  have h5 := cl2 hpu.bec
  have c1 : ∀ W', Bec (fun _ => False) w ((spT (⟨(T.getD k zT).1.n, gp, cp, gw, cw⟩, (T.getD k zT).2)).and ((FmX nq v' T').and ((FmX q v T).and Z))) W' → ClC W' nq q g k v' v (T.getD k zT).1 := fun W' hb => clc_of hb.right.left.see hb.right.right.left.see hk hg
  refine ⟨gp, cp, gw, cw, ao, n, c, w4, rfl, c1 _ h1, fun o => c1 _ (h1.below (new_below w1 o)), hpu.run, ⟨hpu.cell, ?_⟩, hpu.frz, ?_⟩
  · obtain ⟨G5, h6⟩ := h5.right.left.see
    obtain ⟨g', c', hv, hlt, hat⟩ := fm_at h6 hk
    have hgg : g' = g := by
      rw [hv] at hg
      simpa [Value.ownBlock] using hg
    subst hgg
    have k1 := hdc_of (by rw [(FmX.box h6).cell]; rfl) hat
    unfold HdC at k1 ⊢
    rwa [cell_aside hqn, cell_aside hgn, cell_aside hgn, cell_aside hgn] at k1
  · show Bec _ _ _ _
    rw [take_next hT.nod hk]
    exact h5
/-- Both pairs of worlds. -/
def Pl2 (w : World) (p q : Nat) (A : Wd) (po nq : Nat) (W : World) : Prop := ∃ B, Bec (fun _ => False) w (((FlT po B).and (FmT nq B)).and ((FlT p A).and (FmT q A))) W
section
variable {w W W' : World} {p q po nq : Nat} {A : Wd}
theorem Pl2.next (h : Pl2 w p q A po nq W) (hb : Below W.heap.size W W') : Pl2 w p q A po nq W' := by
  obtain ⟨B, h⟩ := h
  exact ⟨B, h.below hb⟩
theorem Pl2.new (h : Pl2 w p q A po nq W) : Plays w po nq W := by
  obtain ⟨B, h⟩ := h
  exact ⟨B, h.left⟩
theorem Pl2.old (h : Pl2 w p q A po nq W) : Plays w p q W := by
  obtain ⟨B, h⟩ := h
  exact ⟨A, h.right⟩
theorem Pl2.deed (h : Pl2 w p q A po nq W) {d : FDd} (hok : d.ok) :
    Calls Try.prog 10 #[.pointer (some ⟨po, 0, none⟩), .pointer (some ⟨nq, 0, none⟩), .agg d.arr] W fun e W' => e = .returned (.bool true) ∧ Hid (Pl2 w p q A po nq W') := by
  obtain ⟨B, h⟩ := h
  obtain ⟨G, h1, cl⟩ := h.open
  obtain ⟨B', hd⟩ := do_any h1 hok
  exact hd.mono fun e w' hp => ⟨hp.1, B', cl hp.2⟩
end
/-- The copying is done. -/
theorem CpS.done {w W : World} {nq q p po : Nat} {v : Value} {T : Sps} {A : Wd} (hT : FmOk T A) (h : CpS w nq q v T ((FlT po A).and (FlT p A)) T.length W) : Pl2 w p q A po nq W := by
  unfold CpS at h
  rw [List.take_length, hT.eq] at h
  refine ⟨A, h.imp fun {F' w'} k => ?_⟩
  have k1 := and_mono (Th.le.refl _) (and_mono (fmx_le (q := q) (v := v) hT) (Th.le.refl _)) k
  exact and_mono (and_comm _ _) (and_comm _ _) (and_assoc' _ _ _ (and_mono (Th.le.refl _) (and_left _ _ _) k1))
end Go.Proofs.Ytoimmapdkapheaa
