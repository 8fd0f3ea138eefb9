/- Lay, Cut. -/
import Derived.Test.YtoimmapdkapheaaASide
namespace Go.Proofs.Ytoimmapdkapheaa
set_option maxRecDepth 4000
open Go.RowKit

/-- What a call tells that lays a list anew. -/
def LayW (w : World) (M : List AAr) (e : Ending) (w' : World) : Prop :=
  (if M.length ≤ 64 then ∃ v, e = .returned (.tuple #[v, .nilIface]) ∧ Row rAAr w.heap.size w' v M else e = .returned (.tuple #[.slice none 0 0, .iface 48 (.int .i64 5)])) ∧ Below w.heap.size w w'
theorem SideW.lay {w W w' : World} {M : List AAr} {e : Ending} (h : SideW W M e w') (hb : Below w.heap.size w W) : LayW w M e w' := by
  refine ⟨?_, below_call' hb h.2⟩
  have h1 := h.1
  by_cases c : M.length ≤ 64
  · rw [if_pos c] at h1 ⊢
    obtain ⟨v, e1, r⟩ := h1
    exact ⟨v, e1, r.lower hb.size⟩
  · rw [if_neg c] at h1 ⊢
    exact h1
set_option maxRecDepth 100000 in
set_option maxHeartbeats 8000000 in
theorem cut_any {w : World} {ao : Option Addr} {c : Nat} {L : List AAr} (hs : Sn rAAr w ao L) (hm : L.length ≤ maxLen) (a b : Int) :
    Calls Try.prog 48 #[.slice ao L.length c, .int .i64 a, .int .i64 b] w fun e w' => ((MayA L ∧ SpanA a b) ∧ LayW w (layM L a b []) e w') ∨ ((¬ (MayA L ∧ SpanA a b) ∧ e = .returned (.tuple #[.slice none 0 0, .iface 48 (.int .i64 1)])) ∧ Below w.heap.size w w') := by
  have hC := chkspan_any (c := c) hs hm a b
  have HS : Hid (Sn rAAr w ao L) := hs
  clear hs
  go_enter Try.func48, Try.ntmps48
  go_wp2_with fail
  refine hC.mono ?_
  rintro e w1 ⟨h, hb⟩
  have HB1 : Hid (Below w.heap.size w w1) := hb
  clear hb hC
  rcases h with ⟨hM, rfl⟩ | ⟨hM, rfl⟩
  · have HM : Hid (MayA L ∧ SpanA a b) := hM
    have hbl := below_any (c := c) (HS.out.below HB1.out) (by have := hM.1.1; omega) a
    clear hM hm
    go_wp2_with fail
    refine hbl.mono ?_
    rintro e w2 ⟨v1, rfl, r1, hb2⟩
    have HB2 : Hid (Below w.heap.size w w2) := below_call' HB1.out hb2
    have hab := above_any (c := c) (HS.out.below HB2.out) (by have := HM.out.1.1; omega) b
    have HR1 : Hid (Row rAAr w1.heap.size w2 v1 (clipA 0 a L)) := r1
    clear r1 hb2 hbl
    go_wp2_with fail
    refine hab.mono ?_
    rintro e w3 ⟨v2, rfl, r2, hb3⟩
    have HB3 : Hid (Below w.heap.size w w3) := below_call' HB2.out hb3
    have R1 := HR1.out.below hb3
    obtain ⟨a1, c1, rfl⟩ := R1.form
    obtain ⟨a2, c2, rfl⟩ := r2.form
    have HB4 : Hid (Below w3.heap.size w3 (w3.alloc (.cells #[.slice a1 (clipA 0 a L).length c1, .slice a2 (clipA b 4096 L).length c2] 51))) := (Below.refl _ _).alloc (Nat.le_refl _) _
    have hSd := side_any (w := w3.alloc (.cells #[.slice a1 (clipA 0 a L).length c1, .slice a2 (clipA b 4096 L).length c2] 51)) (b := w3.heap.size) (c := 2) (T := [(a1, c1, clipA 0 a L), (a2, c2, clipA b 4096 L)]) (fun i hi => by
      have s1 := (R1.sn).below HB4.out
      have s2 := (r2.sn).below HB4.out
      rcases i with _ | _ | i
      · exact ⟨cell_of_row _ _ _ _ _ _ (heap_alloc_new w3 _), s1⟩
      · exact ⟨cell_of_row _ _ _ _ _ _ (heap_alloc_new w3 _), s2⟩
      · exact absurd (show i + 1 + 1 < 2 from hi) (by omega)) (by simp) (by simp) (by
      have h1 := clip_len 0 a L
      have h2 := clip_len b 4096 L
      have h3 := HM.out.1.1
      simp [joinL]
      omega)
    have HJ : Hid (mrgA [] (joinL [(a1, c1, clipA 0 a L), (a2, c2, clipA b 4096 L)]) = layM L a b []) := by simp [joinL, layM, layX, Hid]
    rw [HJ.out] at hSd
    have HLW : Hid (∀ e w', SideW (w3.alloc (.cells #[.slice a1 (clipA 0 a L).length c1, .slice a2 (clipA b 4096 L).length c2] 51)) (layM L a b []) e w' → LayW w (layM L a b []) e w') := fun e w' h => h.lay (below_call' HB3.out HB4.out)
    clear R1 r2 hb3 hab HJ
    simp only [List.length_cons, List.length_nil] at hSd
    go_wp2_with fail
    refine hSd.mono ?_
    rintro e w5 h5
    have h6 := HLW.out e w5 h5
    have HMM : Hid (MayA L ∧ SpanA a b) := HM
    clear hSd h5 HLW HM
    by_cases c6 : (layM L a b []).length ≤ 64
    · have h7 := h6.1
      rw [if_pos c6] at h7
      obtain ⟨v, rfl, -⟩ := h7
      have H6 : Hid (LayW w (layM L a b []) (.returned (.tuple #[v, .nilIface])) w5) := h6
      clear h6
      go_wp2
      go_ret2
      exact Or.inl ⟨HMM.out, H6.out⟩
    · have h7 := h6.1
      rw [if_neg c6] at h7
      subst h7
      have H6 : Hid (LayW w (layM L a b []) (.returned (.tuple #[.slice none 0 0, .iface 48 (.int .i64 5)])) w5) := h6
      clear h6
      go_wp2
      go_ret2
      exact Or.inl ⟨HMM.out, H6.out⟩
  · have HM : Hid (¬ (MayA L ∧ SpanA a b)) := hM
    clear hM
    go_wp2
    go_ret2
    exact Or.inr ⟨⟨HM.out, rfl⟩, HB1.out⟩

/-- What stands between Lay's calls: what was ahead of them does, and the argument's cells. -/
def PreA (w w1 W : World) : Prop := Below w.heap.size w W ∧ w.heap.size < W.heap.size ∧ ∀ o, W.cell? ⟨w.heap.size, o, none⟩ = w1.cell? ⟨w.heap.size, o, none⟩
theorem PreA.below {w w1 W W' : World} (h : PreA w w1 W) (hb : Below W.heap.size W W') : PreA w w1 W' := ⟨below_call' h.1 hb, Nat.lt_of_lt_of_le h.2.1 hb.size, fun o => ((bcell hb).1 _ o h.2.1).trans (h.2.2 o)⟩
theorem new_below (w : World) (o : Obj) : Below w.heap.size w (w.alloc o) := (Below.refl _ _).alloc (Nat.le_refl _) _
theorem PreA.alloc {w w1 W : World} (h : PreA w w1 W) (o : Obj) : PreA w w1 (W.alloc o) := h.below (new_below _ _)
theorem PreA.drew {w w1 W : World} (h : PreA w w1 W) : PreA w w1 W.drew := h.below (Below.refl _ _).drew
theorem Sn.newd (w : World) (d : AAr) : Sn rAAr (w.alloc (.cells d.arr 55)) (some ⟨w.heap.size, 0, none⟩) [d] := Sn.one (by simp) (At.new (R := rAAr) w d _ rfl)
theorem lay_first {w w1 W : World} {ao : Option Addr} {c : Nat} {L : List AAr} (hs : Sn rAAr w ao L) (hm : L.length ≤ 64) (a : Int) (hp : PreA w w1 W) :
    Calls Try.prog 60 #[.slice ao L.length c, .int .i64 a] W fun e w2 => ∃ a1 k1, e = .returned (.slice a1 (clipA 0 a L).length k1) ∧ Hid (PreA w w1 w2 ∧ Sn rAAr w2 a1 (clipA 0 a L) ∧ Below W.heap.size W w2) ∧ ∀ o, w2.cell? ⟨w.heap.size, o, none⟩ = w1.cell? ⟨w.heap.size, o, none⟩ :=
  (below_any (c := c) (hs.below hp.1) (by omega) a).mono fun e w2 ⟨v, e1, r, hb2⟩ => by
    obtain ⟨a1, k1, e2⟩ := r.form
    subst e2
    exact ⟨a1, k1, e1, ⟨hp.below hb2, r.sn, hb2⟩, (hp.below hb2).2.2⟩
theorem lay_second {w w1 W : World} {ao : Option Addr} {c : Nat} {L : List AAr} (hs : Sn rAAr w ao L) (hm : L.length ≤ 64) (b : Int) (hp : PreA w w1 W) :
    Calls Try.prog 61 #[.slice ao L.length c, .int .i64 b] W fun e w3 => ∃ a2 k2, e = .returned (.slice a2 (clipA b 4096 L).length k2) ∧ Hid (PreA w w1 w3 ∧ Sn rAAr w3 a2 (clipA b 4096 L) ∧ Below W.heap.size W w3) ∧ ∀ o, w3.cell? ⟨w.heap.size, o, none⟩ = w1.cell? ⟨w.heap.size, o, none⟩ :=
  (above_any (c := c) (hs.below hp.1) (by omega) b).mono fun e w3 ⟨v, e1, r, hb3⟩ => by
    obtain ⟨a2, k2, e2⟩ := r.form
    subst e2
    exact ⟨a2, k2, e1, ⟨hp.below hb3, r.sn, hb3⟩, (hp.below hb3).2.2⟩
theorem side3_any {W : World} {a1 a2 a3 : Option Addr} {k1 k2 k3 : Nat} {A B C : List AAr} (s1 : Sn rAAr W a1 A) (s2 : Sn rAAr W a2 B) (s3 : Sn rAAr W a3 C) (hl : A.length + B.length + C.length ≤ 900) :
    Calls Try.prog 59 #[.slice (some ⟨W.heap.size, 0, none⟩) 3 3] (W.alloc (.cells #[.slice a1 A.length k1, .slice a2 B.length k2, .slice a3 C.length k3] 51)) fun e w' => ∃ v u, e = .returned (.tuple #[v, u]) ∧ LayW W (mrgA [] (A ++ B ++ C)) (.returned (.tuple #[v, u])) w' := by
  have hb4 := new_below W (.cells #[.slice a1 A.length k1, .slice a2 B.length k2, .slice a3 C.length k3] 51)
  have t1 := s1.below hb4
  have t2 := s2.below hb4
  have t3 := s3.below hb4
  have hj : joinL [(a1, k1, A), (a2, k2, B), (a3, k3, C)] = A ++ B ++ C := by simp [joinL]
  have h := side_any (w := W.alloc (.cells #[.slice a1 A.length k1, .slice a2 B.length k2, .slice a3 C.length k3] 51)) (b := W.heap.size) (c := 3) (T := [(a1, k1, A), (a2, k2, B), (a3, k3, C)]) (fun i hi => by
    rcases i with _ | _ | _ | i
    · exact ⟨cell_of_row _ _ _ _ _ _ (heap_alloc_new W _), t1⟩
    · exact ⟨cell_of_row _ _ _ _ _ _ (heap_alloc_new W _), t2⟩
    · exact ⟨cell_of_row _ _ _ _ _ _ (heap_alloc_new W _), t3⟩
    · exact absurd (show i + 1 + 1 + 1 < 3 from hi) (by omega)) (by simp) (by simp) (by
    rw [hj]
    simp only [List.length_append]
    omega)
  rw [hj] at h
  refine h.mono fun e w' h5 => ?_
  have h6 := h5.lay hb4
  have h7 := h6.1
  by_cases c6 : (mrgA [] (A ++ B ++ C)).length ≤ 64
  · rw [if_pos c6] at h7
    obtain ⟨v, rfl, -⟩ := h7
    exact ⟨v, _, rfl, h6⟩
  · rw [if_neg c6] at h7
    subst h7
    exact ⟨_, _, rfl, h6⟩
theorem LayW.more {w W w' : World} {M : List AAr} {e : Ending} (h : LayW W M e w') (hb : Below w.heap.size w W) : LayW w M e w' := by
  refine ⟨?_, below_call' hb h.2⟩
  have h1 := h.1
  by_cases c : M.length ≤ 64
  · rw [if_pos c] at h1 ⊢
    obtain ⟨v, e1, r⟩ := h1
    exact ⟨v, e1, r.lower hb.size⟩
  · rw [if_neg c] at h1 ⊢
    exact h1
theorem lay_third {w w1 W : World} {a1 a2 a3 : Option Addr} {k1 k2 k3 g : Nat} {A B C : List AAr} (hg : g = W.heap.size) (hl : A.length + B.length + C.length ≤ 900) (hp : PreA w w1 W) (s1 : Sn rAAr W a1 A) (s2 : Sn rAAr W a2 B) (s3 : Sn rAAr W a3 C) :
    Calls Try.prog 59 #[.slice (some ⟨g, 0, none⟩) 3 3] (W.alloc (.cells #[.slice a1 A.length k1, .slice a2 B.length k2, .slice a3 C.length k3] 51)) fun e w' => ∃ v u, e = .returned (.tuple #[v, u]) ∧ Hid (LayW w (mrgA [] (A ++ B ++ C)) (.returned (.tuple #[v, u])) w') ∧ ∀ o, w'.cell? ⟨w.heap.size, o, none⟩ = w1.cell? ⟨w.heap.size, o, none⟩ :=
  by
  subst hg
  exact (side3_any s1 s2 s3 hl).mono fun _ _ ⟨v, u, h1, h2⟩ => ⟨v, u, h1, h2.more hp.1, (hp.below h2.2).2.2⟩
set_option maxRecDepth 100000 in
set_option maxHeartbeats 8000000 in
theorem lay_any {w : World} {ao : Option Addr} {c : Nat} {L : List AAr} (hs : Sn rAAr w ao L) (hm : L.length ≤ maxLen) (d : AAr) :
    Calls Try.prog 43 #[.slice ao L.length c, av d] w fun e w' => ((MayA L ∧ SpanA d.a d.b) ∧ LayW w (layM L d.a d.b [d]) e w') ∨ ((¬ (MayA L ∧ SpanA d.a d.b) ∧ e = .returned (.tuple #[.slice none 0 0, .iface 48 (.int .i64 1)])) ∧ Below w.heap.size w w') := by
  have hB0 : Below w.heap.size w (w.alloc (.cells d.arr 55)) := (Below.refl _ _).alloc (Nat.le_refl _) _
  have hC := chkspan_any (c := c) (hs.below hB0) hm d.a d.b
  have HB0 : Hid (Below w.heap.size w (w.alloc (.cells d.arr 55)) ∧ Laid (w.alloc (.cells d.arr 55)) w.heap.size 55 d.arr) := ⟨hB0, Laid.new _ _ _⟩
  have HS : Hid (Sn rAAr w ao L) := hs
  clear hs hB0
  obtain ⟨a, b, x2, x3, x4⟩ := d
  unfold AAr.arr at HB0 hC
  unfold av
  simp only at *
  go_enter Try.func43, Try.ntmps43
  go_wp2_with fail
  refine hC.mono ?_
  rintro e w1 ⟨h, hb⟩
  have HB1 : Hid (Below w.heap.size w w1) := below_call HB0.out.1 HB0.out.1.size hb
  have X1 := HB0.out.2.below hb
  clear hb hC
  rcases h with ⟨hM, rfl⟩ | ⟨hM, rfl⟩
  · have HM : Hid (MayA L ∧ SpanA a b) := hM
    obtain ⟨c0, c1, c2, c3, c4⟩ := AAr.laid (d := ⟨a, b, x2, x3, x4⟩) X1
    simp only at c0 c1 c2 c3 c4
    have HP : Hid (PreA w w1 w1) := ⟨HB1.out, X1.lt, fun _ => rfl⟩
    have HLEN : Hid ((clipA 0 a L).length + [(⟨a, b, x2, x3, x4⟩ : AAr)].length + (clipA b 4096 L).length ≤ 900) := by
      have h1 := clip_len 0 a L
      have h2 := clip_len b 4096 L
      have h3 := HM.out.1.1
      simp only [Hid, List.length_cons, List.length_nil]
      omega
    clear hM hm HB0 X1
    go_wp2_with fail
    go_region_held3 (fun w' => w'.cell? ⟨w.heap.size, 0, none⟩ = some (.int .i64 a) ∧ w'.cell? ⟨w.heap.size, 1, none⟩ = some (.int .i64 b) ∧ w'.cell? ⟨w.heap.size, 2, none⟩ = some (.bool x2) ∧ w'.cell? ⟨w.heap.size, 3, none⟩ = some (.bool x3) ∧ w'.cell? ⟨w.heap.size, 4, none⟩ = some (.bool x4)) (go_keep) (first | (go_at_call 60; refine Calls.mono (lay_first (w := w) (w1 := w1) HS.out HM.out.1.1 a ?q1) ?_; (case q1 => first | exact HP.out.drew | exact HP.out | exact HP.out.drew.alloc (.cells #[.int .i64 a, .int .i64 b, .bool x2, .bool x3, .bool x4] 55) | exact (HP.out.alloc (.cells #[.int .i64 a, .int .i64 b, .bool x2, .bool x3, .bool x4] 55)).drew | exact HP.out.alloc (.cells #[.int .i64 a, .int .i64 b, .bool x2, .bool x3, .bool x4] 55)); rintro e w2 ⟨a1, k1, rfl, H2, hx2⟩) | (go_at_call 61; refine Calls.mono (lay_second (w := w) (w1 := w1) HS.out HM.out.1.1 b ?q1) ?_; (case q1 => first | exact H2.out.1 | exact H2.out.1.alloc (.cells #[.int .i64 a, .int .i64 b, .bool x2, .bool x3, .bool x4] 55)); rintro e w3 ⟨a2, k2, rfl, H3, hx3⟩) | (go_at_call 59; refine Calls.mono (lay_third (w := w) (w1 := w1) ?q0 HLEN.out ?q1 ?q2 ?q3 ?q4) ?_; (case q0 => first | rfl | simp); (case q1 => first | exact H3.out.1 | exact H3.out.1.alloc (.cells #[.int .i64 a, .int .i64 b, .bool x2, .bool x3, .bool x4] 55)); (case q2 => first | exact (H2.out.2.1.below (new_below w2 (.cells #[.int .i64 a, .int .i64 b, .bool x2, .bool x3, .bool x4] 55))).below H3.out.2.2 | exact (H2.out.2.1.below H3.out.2.2).below (new_below w3 (.cells #[.int .i64 a, .int .i64 b, .bool x2, .bool x3, .bool x4] 55)) | exact H2.out.2.1.below H3.out.2.2); (case q3 => first | exact (Sn.newd w2 ⟨a, b, x2, x3, x4⟩).below H3.out.2.2 | exact Sn.newd w3 ⟨a, b, x2, x3, x4⟩ | exact ((Sn.newd w1.drew ⟨a, b, x2, x3, x4⟩).below H2.out.2.2).below H3.out.2.2 | exact ((Sn.newd w1 ⟨a, b, x2, x3, x4⟩).below H2.out.2.2).below H3.out.2.2); (case q4 => first | exact H3.out.2.1 | exact H3.out.2.1.below (new_below w3 (.cells #[.int .i64 a, .int .i64 b, .bool x2, .bool x3, .bool x4] 55))); rintro e w5 ⟨v, u, rfl, H5, hx5⟩))
    all_goals
      have H6 : Hid (LayW w (layM L a b [⟨a, b, x2, x3, x4⟩]) (.returned (.tuple #[v, u])) w5) := H5
      clear hx2 hx3 hx5 H5
      go_wp2
      go_ret2
      exact Or.inl ⟨HM.out, H6.out⟩
  · have HM : Hid (¬ (MayA L ∧ SpanA a b)) := hM
    clear hM
    go_wp2
    go_ret2
    exact Or.inr ⟨⟨HM.out, rfl⟩, HB1.out⟩
end Go.Proofs.Ytoimmapdkapheaa
