/- What (*buddy.Store).joined does. -/
import Derived.Test.YtbpihdeinkopfaaDoorUTake
namespace Go.Proofs.YtbpihdeinkopfaaDoor
open Go.RowKit

theorem eqR_run (a b : Bk) (w : World) : (Op.equalIn 10000 48 (bval a) (bval b)).run Tryd.prog w = .ok (decide (a = b)) w := by
  have hi : ∀ (n : Nat) (x y : Int) (w : World), (Op.equalIn (n + 1) 3 (.int .i64 x) (.int .i64 y)).run Tryd.prog w = .ok (x == y) w := fun n x y w => run_equalIn_int w n 3 .i64 .i64 x y Tryd.underlying3
  unfold bval
  rw [run_equalIn_agg w 9999 _ _ _ (by kernel_rfl) (by kernel_rfl)]
  obtain ⟨a1, a2⟩ := a
  obtain ⟨b1, b2⟩ := b
  simp [go_sem, Program.fieldsOf, Tryd.underlying48, Op.eqFields, hi]
  refine dite (a1 = b1) (fun h1 => ?_) (fun h1 => by simp [h1]; omega)
  by_cases h2 : a2 = b2
  · simp [h1, h2]
  · simp [h1, h2]
    omega
theorem eql_run (a b : Bk) (w : World) : (binOp .eql 48 (bval a) (bval b)).run Tryd.prog w = .ok (.bool (decide (a = b))) w := by
  have := eqR_run a b w
  unfold bval at *
  rw [run_eql_struct, this]
  rfl
theorem neq_run (a b : Bk) (w : World) : (binOp .neq 48 (bval a) (bval b)).run Tryd.prog w = .ok (.bool (!decide (a = b))) w := by
  have := eqR_run a b w
  unfold bval at *
  rw [run_neq_struct, this]
  rfl

/-- One of the list is left out. -/
theorem Good.without {L : List Bk} (g : Good L) {i : Nat} {o : Bk} (h : L[i]? = some o) : Good (L.take i ++ L.drop (i + 1)) ∧ ∀ x, cov L x ↔ cov (L.take i ++ L.drop (i + 1)) x ∨ inB o x := by
  have hi := (List.getElem?_eq_some_iff.1 h).1
  have hsp : L = L.take i ++ o :: L.drop (i + 1) := by
    have h1 := List.getElem_cons_drop hi
    rw [(List.getElem?_eq_some_iff.1 h).2] at h1
    rw [h1, List.take_append_drop]
  refine ⟨g.sub ?_, fun x => ?_⟩
  · have : (L.take i ++ L.drop (i + 1)).Sublist (L.take i ++ o :: L.drop (i + 1)) := List.Sublist.append_left (List.sublist_cons_self _ _) _
    rwa [← hsp] at this
  · have := cov_insert (A := L.take i) (C := L.drop (i + 1)) (b := o) x
    rwa [← hsp] at this
theorem Good.once {L : List Bk} (g : Good L) {i : Nat} {o : Bk} (h : L[i]? = some o) {x : Nat} (hx : inB o x) : ¬ cov (L.take i ++ L.drop (i + 1)) x := by
  have hi := (List.getElem?_eq_some_iff.1 h).1
  have hsp : L = L.take i ++ o :: L.drop (i + 1) := by
    have h1 := List.getElem_cons_drop hi
    rw [(List.getElem?_eq_some_iff.1 h).2] at h1
    rw [h1, List.take_append_drop]
  have hs := g.sorted
  rw [hsp, List.pairwise_append, List.pairwise_cons] at hs
  obtain ⟨_, ⟨s2, _⟩, s4⟩ := hs
  rintro ⟨c, hc, h1, h2⟩
  rcases List.mem_append.1 hc with hc | hc
  · have := s4 c hc o (by simp)
    have := hx.1
    omega
  · have := s2 c hc
    have := hx.2
    omega

/-- What joining keeps: a block apart from a list, both covering what was. -/
structure Jn (n : Nat) (L0 : List Bk) (b0 : Bk) (L : List Bk) (b : Bk) : Prop where
  ok : Okl n L
  al : alB b
  top : bend b ≤ n
  apart : ∀ x, inB b x → ¬ cov L x
  all : ∀ x, cov L x ∨ inB b x ↔ cov L0 x ∨ inB b0 x
theorem Jn.step {n : Nat} {L0 L : List Bk} {b0 b : Bk} (h : Jn n L0 b0 L b) (h5 : b.2 < 5) {i : Nat} (hi : L[i]? = some (bud b)) : Jn n L0 b0 (L.take i ++ L.drop (i + 1)) (par b) := by
  obtain ⟨g1, g2⟩ := h.ok.good.without hi
  have hmem := List.mem_of_getElem? hi
  refine ⟨⟨g1, fun y hy => h.ok.top y ?_, h.ok.max⟩, par_al h.al h5, ?_, fun x hx hc => ?_, fun x => ?_⟩
  · rcases List.mem_append.1 hy with hy | hy
    · exact List.mem_of_mem_take hy
    · exact List.mem_of_mem_drop hy
  · have t1 := h.top
    have t2 := h.ok.top _ hmem
    rcases par_cases h.al.2 with ⟨_, e1, e2⟩ | ⟨_, h1, _, e1, e2⟩
    · rw [e1] at t2
      rw [e2]
      unfold bend at *
      simp only [Nat.pow_succ] at *
      omega
    · rw [e2]
      unfold bend at *
      simp only [Nat.pow_succ] at *
      omega
  · rcases (par_in h.al.2 x).1 hx with h1 | h1
    · exact h.apart x h1 ((g2 x).2 (Or.inl hc))
    · exact h.ok.good.once hi h1 hc
  · rw [← h.all x, g2 x, par_in h.al.2 x]
    constructor
    · rintro (h1 | h1 | h1)
      · exact Or.inl (Or.inl h1)
      · exact Or.inr h1
      · exact Or.inl (Or.inr h1)
    · rintro ((h1 | h1) | h1)
      · exact Or.inl h1
      · exact Or.inr (Or.inr h1)
      · exact Or.inr (Or.inl h1)
/-- Joined to the end: put in its place, it is a list of blocks. -/
theorem Jn.done {n : Nat} {L0 L : List Bk} {b0 b : Bk} (h : Jn n L0 b0 L b) (hj : b.2 < 5 → bud b ∉ L) : Okl n (L.take (behind L b.1) ++ ([b] ++ L.drop (behind L b.1))) ∧ ∀ x, cov (L.take (behind L b.1) ++ ([b] ++ L.drop (behind L b.1))) x ↔ cov L0 x ∨ inB b0 x := by
  obtain ⟨i, hi⟩ : ∃ i, i = behind L b.1 := ⟨_, rfl⟩
  rw [← hi]
  have hap := h.apart
  have hbp := bend_pos b
  have hc : ∀ c ∈ L.drop i, bend b ≤ c.1 := by
    intro c hc
    obtain ⟨k, hk⟩ := List.getElem?_of_mem hc
    rw [List.getElem?_drop] at hk
    have h1 := (behind_mono h.ok.good.sorted b.1 (i + k) c hk).2 (by omega)
    have hcm := List.mem_of_getElem? hk
    have h2 : ¬ c.1 ≤ b.1 := fun e => hap b.1 ⟨Nat.le_refl _, hbp⟩ ⟨c, hcm, e, h1⟩
    have h3 : ¬ c.1 < bend b := fun e => hap c.1 ⟨by omega, e⟩ ⟨c, hcm, Nat.le_refl _, bend_pos c⟩
    omega
  have ha : ∀ a ∈ L.take i, bend a ≤ b.1 := by rw [hi]; exact (behind_split L b.1).1
  have hg := h.ok.good
  rw [← List.take_append_drop i L] at hg hj
  have hG := hg.insert h.al ha hc hj
  refine ⟨⟨hG, fun y hy => ?_, h.ok.max⟩, fun x => ?_⟩
  · rcases List.mem_append.1 hy with hy | hy
    · exact h.ok.top y (List.mem_of_mem_take hy)
    · rcases List.mem_cons.1 hy with rfl | hy
      · exact h.top
      · exact h.ok.top y (List.mem_of_mem_drop hy)
  · have h1 := cov_insert (A := L.take i) (C := L.drop i) (b := b) x
    rw [List.take_append_drop] at h1
    exact h1.trans (h.all x)

/-- What joined tells. -/
def JoinP (F : Nat → Prop) (w : World) (p n : Nat) (L0 : List Bk) (b0 : Bk) (e : Ending) (w' : World) : Prop := ∃ L b, e = .returned (bval b) ∧ SP F w p n L w' ∧ Jn n L0 b0 L b ∧ (b.2 < 5 → bud b ∉ L)

/-- What holds at the head of its loop. -/
structure JI (F : Nat → Prop) (w : World) (p n : Nat) (ao : Option Addr) (c : Nat) (L0 : List Bk) (b0 : Bk) (W : World) (L : List Bk) (b : Bk) : Prop where
  sto : Sto F W p n (.slice ao L.length c) L
  jn : Jn n L0 b0 L b
  blk : Laid W w.heap.size 48 #[.int .i64 b.1, .int .i64 b.2]
  res : Laid W (w.heap.size + 1) 48 #[.int .i64 0, .int .i64 0]
  keep : Keeps w W F
theorem JI.below {F : Nat → Prop} {w : World} {p n : Nat} {ao : Option Addr} {c : Nat} {L0 : List Bk} {b0 : Bk} {W W' : World} {L : List Bk} {b : Bk} (h : JI F w p n ao c L0 b0 W L b) (hb : Below W.heap.size W W') : JI F w p n ao c L0 b0 W' L b :=
  ⟨h.sto.below hb, h.jn, h.blk.below hb, h.res.below hb, h.keep.trans (Keeps.of_below hb F) fun _ _ e => e⟩
/-- The result is written. -/
theorem JI.out {F : Nat → Prop} {w : World} {p n : Nat} {ao : Option Addr} {c : Nat} {L0 : List Bk} {b0 : Bk} {W W' : World} {L : List Bk} {b : Bk} (h : JI F w p n ao c L0 b0 W L b) (hF : ∀ c, F c → c < w.heap.size) (hk : Keeps W W' (fun b => b = w.heap.size + 1)) : SP F w p n L W' := by
  have hs := h.sto.keeps hk fun c hc e => by have := hF c hc; omega
  exact ⟨_, ⟨hs.laid, hs.row, Or.inl hs.fp, fun g hg => Or.inl (hs.fv g hg), fun c hc => hc.elim (hs.lt c) fun e => e.2⟩, h.keep.trans hk fun c hc e => by omega⟩
/-- The buddy is left out, the block is both. -/
theorem JI.next {F : Nat → Prop} {w : World} {p n g : Nat} {c : Nat} {L0 L L' : List Bk} {b0 b pb : Bk} {W W4 : World} (h : JI F w p n (some ⟨g, 0, none⟩) c L0 b0 W L b) (hF : ∀ c, F c → c < w.heap.size) (hr : Row rB 0 W4 (.slice (some ⟨g, 0, none⟩) L'.length c) L') (hk : Keeps W W4 (fun b => b = g)) (hj : Jn n L0 b0 L' pb) :
    Laid W4 p 55 #[.int .i64 n, .slice (some ⟨g, 0, none⟩) L.length c] ∧ Laid W4 w.heap.size 48 #[.int .i64 b.1, .int .i64 b.2] ∧ p < w.heap.size ∧ g < w.heap.size ∧ JI F w p n (some ⟨g, 0, none⟩) c L0 b0 (((W4.setCell ⟨p, 1, none⟩ (.slice (some ⟨g, 0, none⟩) L'.length c)).setCell ⟨w.heap.size, 0, none⟩ (.int .i64 pb.1)).setCell ⟨w.heap.size, 1, none⟩ (.int .i64 pb.2)) L' pb := by
  have hp := hF p h.sto.fp
  have hg := hF g (h.sto.fv g rfl)
  have hpg : p ≠ g := fun e => h.sto.ne (by rw [e]; rfl)
  have hl4 : Laid W4 p 55 #[.int .i64 n, .slice (some ⟨g, 0, none⟩) L.length c] := (hk.block p h.sto.laid.lt hpg).trans h.sto.laid
  have hb4 : Laid W4 w.heap.size 48 #[.int .i64 b.1, .int .i64 b.2] := (hk.block _ h.blk.lt (by omega)).trans h.blk
  have hr4 : Laid W4 (w.heap.size + 1) 48 #[.int .i64 0, .int .i64 0] := (hk.block _ h.res.lt (by omega)).trans h.res
  refine ⟨hl4, hb4, hp, hg, ?_⟩
  obtain ⟨W5, hW5⟩ : ∃ W5, W5 = W4.setCell ⟨p, 1, none⟩ (.slice (some ⟨g, 0, none⟩) L'.length c) := ⟨_, rfl⟩
  obtain ⟨W6, hW6⟩ : ∃ W6, W6 = (W5.setCell ⟨w.heap.size, 0, none⟩ (.int .i64 pb.1)).setCell ⟨w.heap.size, 1, none⟩ (.int .i64 pb.2) := ⟨_, rfl⟩
  rw [← hW5, ← hW6]
  have k5 : Keeps W4 W5 (fun b => b = p) := by rw [hW5]; exact Keeps.set _ _ _ _
  have k6 : Keeps W5 W6 (fun b => b = w.heap.size) := by rw [hW6]; exact (Keeps.set _ _ _ _).trans (Keeps.set _ _ _ _) fun _ _ h => h
  have hl5 : Laid W5 p 55 #[.int .i64 n, .slice (some ⟨g, 0, none⟩) L'.length c] := by rw [hW5]; exact heap_setCell_same W4 p 1 _ _ _ hl4
  have hb5 : Laid W5 w.heap.size 48 #[.int .i64 b.1, .int .i64 b.2] := (k5.block _ hb4.lt (by omega)).trans hb4
  have hb6 : Laid W6 w.heap.size 48 #[.int .i64 pb.1, .int .i64 pb.2] := by
    rw [hW6]
    exact heap_setCell_same _ _ 1 _ _ _ (heap_setCell_same W5 _ 0 _ _ _ hb5)
  have k46 : Keeps W4 W6 (fun b => b = p ∨ b = w.heap.size) := (k5.mono fun _ _ e => Or.inl e).trans (k6.mono fun _ _ e => Or.inr e) fun _ _ e => e
  refine ⟨⟨(k6.block p hl5.lt (by omega)).trans hl5, k46.row hr fun g' hg' e => ?_, h.sto.fp, fun g' hg' => ?_, fun c hc => ?_⟩, hj, hb6, ?_, ?_⟩
  · simp [Value.ownBlock] at hg'
    omega
  · simp [Value.ownBlock] at hg'
    subst hg'
    exact h.sto.fv _ rfl
  · have := h.sto.lt c hc
    have := hk.size
    have := k46.size
    omega
  · exact (k46.block _ hr4.lt (by omega)).trans hr4
  · refine (h.keep.trans (hk.mono (s' := F) fun b _ e => ?_) fun _ _ e => e).trans k46 fun b hb e => ?_
    · rw [e]; exact h.sto.fv g rfl
    · rcases e with e | e
      · rw [e]; exact h.sto.fp
      · omega

set_option maxRecDepth 100000 in
set_option maxHeartbeats 4000000 in
theorem joined_any {F : Nat → Prop} {w : World} {p n : Nat} {v : Value} {L0 : List Bk} (hs : Sto F w p n v L0) (b0 : Bk) (hj : Jn n L0 b0 L0 b0) :
    Calls Tryd.prog 34 #[.pointer (some ⟨p, 0, none⟩), bval b0] w (JoinP F w p n L0 b0) := by
  obtain ⟨ao, c, rfl⟩ := hs.row.form
  have HF : Hid (∀ c, F c → c < w.heap.size) := hs.lt
  have HI0 : Hid (JI F w p n ao c L0 b0 ((w.alloc (.cells #[.int .i64 b0.1, .int .i64 b0.2] 48)).alloc (.cells #[.int .i64 0, .int .i64 0] 48)) L0 b0) := by
    have hb : Below w.heap.size w ((w.alloc (.cells #[.int .i64 b0.1, .int .i64 b0.2] 48)).alloc (.cells #[.int .i64 0, .int .i64 0] 48)) := ((Below.refl _ _).alloc (Nat.le_refl _) _).alloc (by simp) _
    refine ⟨hs.below hb, hj, (Laid.new w _ _).below ((Below.refl _ _).alloc (Nat.le_refl _) _), ?_, Keeps.of_below hb F⟩
    have := Laid.new (w.alloc (.cells #[.int .i64 b0.1, .int .i64 b0.2] 48)) 48 #[.int .i64 0, .int .i64 0]
    simpa using this
  clear hs hj
  unfold bval
  go_enter Tryd.func34, Tryd.ntmps34
  go_wp2
  go_loopw [5, 6] (fun _ _ W => ∃ (L : List Bk) (b : Bk) (d : Nat), W.cell? ⟨w.heap.size, 1, none⟩ = some (.int .i64 d) ∧ Hid (d = b.2) ∧ Hid (JI F w p n ao c L0 b0 W L b)) (fun _ _ W => 5 - (match W.cell? ⟨w.heap.size, 1, none⟩ with | some (.int _ z) => z.toNat | _ => 0))
  case atStart => exact ⟨L0, b0, b0.2, by rw [HI0.out.blk.cell]; rfl, rfl, HI0⟩
  case round =>
    obtain ⟨L, b, d, hcell, HD, HI⟩ := hrel
    clear HI0
    have hd := HD.out
    subst hd
    have hI := HI.out
    have h5 := hI.jn.al.1
    have c0 := hI.blk.cell 0
    have c1 := hI.blk.cell 1
    have r0 := hI.res.cell 0
    have r1 := hI.res.cell 1
    have fz := hI.blk.frozen
    have rz := hI.res.frozen
    have lz := hI.res.lt
    simp at c0 c1 r0 r1
    by_cases hlt : b.2 < 5
    · have hltz : (b.2 : Int) < 5 := by omega
      have ht := hI.jn.top
      have hmx := hI.jn.ok.max
      have hbp := bend_pos b
      have HCW : Hid (wr.cell? ⟨w.heap.size, 1, none⟩ = some (.int .i64 b.2)) := hcell
      have hB := buddy_any b wr (by omega) (by omega)
      unfold bval at hB
      clear hI
      go_wp2_with fail
      refine hB.mono ?_
      rintro e w1 ⟨rfl, hb1⟩
      obtain ⟨ob, hob⟩ : ∃ ob, ob = bud b := ⟨_, rfl⟩
      rw [← hob]
      have hb2 : Below wr.heap.size wr (w1.alloc (.cells #[.int .i64 ob.1, .int .i64 ob.2] 48)) := hb1.alloc hb1.size _
      have I2 := HI.out.below hb2
      have hE := endsBehind_any I2.sto I2.jn.ok ob.1
      rw [Int.toNat_natCast] at hE
      have HOB : Hid (ob = bud b) := hob
      have HB2 : Hid (Below wr.heap.size wr (w1.alloc (.cells #[.int .i64 ob.1, .int .i64 ob.2] 48))) := hb2
      have HL1 : Hid (Laid (w1.alloc (.cells #[.int .i64 ob.1, .int .i64 ob.2] 48)) w1.heap.size 48 #[.int .i64 ob.1, .int .i64 ob.2]) := Laid.new _ _ _
      have hz1 : wr.heap.size ≤ w1.heap.size := hb1.size
      have HF1 : Hid (L[behind L ob.1]? = some ob ↔ ob ∈ L) := (I2.jn.ok.good.find_iff ob).symm
      have hlen := I2.jn.ok.len
      clear hb1 hb2 I2 hob hB hcell
      go_wp2_with fail
      refine hE.mono ?_
      rintro e w2 ⟨rfl, hb3⟩
      have I3 := (HI.out.below HB2.out).below hb3
      have hol := HL1.out.below hb3
      have o0 := hol.cell 0
      have o1 := hol.cell 1
      have c0 := I3.blk.cell 0
      have c1 := I3.blk.cell 1
      have r0 := I3.res.cell 0
      have r1 := I3.res.cell 1
      have fz := I3.blk.frozen
      have rz := I3.res.frozen
      have lz := I3.res.lt
      simp at c0 c1 r0 r1 o0 o1
      obtain ⟨q0, q1, q2, q3⟩ := I3.sto.p0
      have HI3 : Hid (JI F w p n ao c L0 b0 w2 L b) := I3
      obtain ⟨i, hie⟩ : ∃ i, i = behind L ob.1 := ⟨_, rfl⟩
      rw [← hie] at HF1 ⊢
      have hile : i ≤ L.length := by rw [hie]; exact behind_le _ _
      have HOL : Hid (Laid w2 w1.heap.size 48 #[.int .i64 ob.1, .int .i64 ob.2]) := hol
      clear hE HB2 HL1 HI hie hol hb3
      cases hc : L[i]? with
      | none =>
        have hil : (i : Int) = (L.length : Int) := by have := List.getElem?_eq_none_iff.1 hc; omega
        have hil' : ((i : Int) == (L.length : Int)) = true := by simp [hil]
        have hno : bud b ∉ L := by
          rw [← HOB.out, ← HF1.out, hc]
          simp
        have HN : Hid (bud b ∉ L) := hno
        clear hno hc I3 HF1 hil
        go_wp2
        go_quiet (fail)
        go_wp2
        refine bodyPost_ret (v := .agg #[.int .i64 b.1, .int .i64 b.2]) ?_ rfl ⟨L, b, rfl, ?_, HI3.out.jn, fun _ => HN.out⟩
        · simp [results, Tryd.results34, go_sem, r0, r1]
        · exact (HI3.out.below (below_drewN (Below.refl _ _) _)).out HF.out ((Keeps.set _ _ _ _).trans (Keeps.set _ _ _ _) fun _ _ h => h)
      | some cb =>
        have hil := (List.getElem?_eq_some_iff.1 hc).1
        have hilz : (i : Int) < (L.length : Int) := by omega
        have hil' : ((i : Int) == (L.length : Int)) = false := by simp; omega
        have hgd : L.getD i (0, 0) = cb := by rw [List.getD_eq_getElem?_getD, hc]; rfl
        obtain ⟨g, rfl, _, _, hg, _, _, hat⟩ := I3.sto.row.at hil
        obtain ⟨d0, d1⟩ := rB.at hat
        simp only [show rB.n = 2 from rfl, show rB.zero = (0, 0) from rfl, hgd] at d0 d1
        have hne := fun w => neq_run cb ob w
        unfold bval at hne
        by_cases heq : cb = ob
        · subst heq
          rw [show (!decide (cb = cb)) = false by simp] at hne
          have hjn := I3.jn.step hlt (i := i) (by rw [← HOB.out]; exact hc)
          obtain ⟨pb, hpb⟩ : ∃ pb, pb = par b := ⟨_, rfl⟩
          rw [← hpb] at hjn
          have hm1 : min (b.1 : Int) (cb.1 : Int) = (pb.1 : Int) := by rw [hpb, HOB.out]; unfold par; simp only; omega
          have hm2 : (b.2 : Int) + 1 = (pb.2 : Int) := by rw [hpb]; unfold par; simp
          have HM2 : Hid (b.2 + 1 = pb.2) := (by omega : b.2 + 1 = pb.2)
          have HD := fun nq => deleteI_rB (I3.sto.row.below (below_drewN (Below.refl _ _) nq)) i hil
          have HJ : Hid (Jn n L0 b0 (L.take i ++ L.drop (i + 1)) pb) := hjn
          have HD' : Hid _ := HD
          have hw1w : w.heap.size + 1 < w1.heap.size := by omega
          clear hjn hc I3 HF1 hgd hat HD hpb
          go_wp2
          go_quiet (fail)
          have hD := HD'.out nq
          generalize L.take i ++ L.drop (i + 1) = L' at *
          go_wp2_with fail
          refine hD.mono ?_
          rintro e w4 ⟨rfl, hr4, hk4⟩
          have HI5 := HI3.out.below (below_drewN (Below.refl w2.heap.size w2) nq)
          obtain ⟨y1, y2, y3, y4, y5⟩ := HI5.next HF.out hr4 hk4 HJ.out
          have u0 := y1.cell 1
          have u1 := y1.frozen 1
          have u2 := y2.cell 0
          have u3 := y2.cell 1
          have u4 := y2.frozen
          have u7 := y1.lt
          have u8 := y2.lt
          have hol4 : Laid w4 w1.heap.size 48 #[.int .i64 cb.1, .int .i64 cb.2] := (hk4.block _ (HOL.out.lt) (by omega)).trans (HOL.out.below (below_drewN (Below.refl _ _) nq))
          have u5 := hol4.cell 0
          have u6 := hol4.lt
          simp at u0 u2 u3 u5
          have hne1 : ¬ (p = w.heap.size) := by omega
          have hne2 : ¬ (p = w1.heap.size) := by omega
          have hne3 : ¬ (w.heap.size = w1.heap.size) := by omega
          have HY : Hid _ := y5
          clear y1 y2 y5 HI5 hr4 hk4 hol4 HD' hD HI3 HOL HJ c0 c1 r0 r1 o0 o1 d0 d1 fz rz lz q0 q1 q2 q3
          go_wp2
          go_roundw
          case rel => exact ⟨L', pb, pb.2, by rw [HY.out.blk.cell]; rfl, rfl, HY⟩
          case measure =>
            rw [HY.out.blk.cell, HCW.out]
            have := HM2.out
            simp
            omega
        · rw [show (!decide (cb = ob)) = true by simp [heq]] at hne
          have hno : bud b ∉ L := by
            rw [← HOB.out, ← HF1.out, hc]
            simpa using heq
          have HN : Hid (bud b ∉ L) := hno
          clear hno hc I3 HF1 heq hgd hat
          go_wp2
          go_quiet (fail)
          go_wp2
          refine bodyPost_ret (v := .agg #[.int .i64 b.1, .int .i64 b.2]) ?_ rfl ⟨L, b, rfl, ?_, HI3.out.jn, fun _ => HN.out⟩
          · simp [results, Tryd.results34, go_sem, r0, r1]
          · exact (HI3.out.below (below_drewN (Below.refl _ _) _)).out HF.out ((Keeps.set _ _ _ _).trans (Keeps.set _ _ _ _) fun _ _ h => h)
    · have hltz : ¬ (b.2 : Int) < 5 := by omega
      clear hI
      go_wp2
      refine bodyPost_ret (v := .agg #[.int .i64 b.1, .int .i64 b.2]) ?_ rfl ⟨L, b, rfl, ?_, HI.out.jn, fun h => absurd h hlt⟩
      · simp [results, Tryd.results34, go_sem, r0, r1]
      · refine HI.out.out HF.out ?_
        exact (Keeps.set _ _ _ _).trans (Keeps.set _ _ _ _) fun _ _ h => h
end Go.Proofs.YtbpihdeinkopfaaDoor
