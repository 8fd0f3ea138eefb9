/- Own texts, joined: ALay, ATurn, AMay, ARef, ZMake, FMath, FRow, ZMap. -/
import Derived.Test.YtoimmapdkapheaaJB
import Derived.Lib.Walk
import Derived.Shelf.RegionOpenPlain
import Derived.Test.YtoimmapdkapheaaJA
import Derived.Laws.MakeOwn
import Derived.DeepKeys4
import Derived.Maps.OwnOps
import Derived.Maps.Keyed
import Derived.Maps.RangeWalk
/- Lay, Cut. -/
namespace Go.Proofs.Ytoimmapdkapheaa
set_option maxRecDepth 4000
open Go.RowKit

/-- What a call tells that lays a list anew. -/
def LayW (w : World) (M : List AAr) (e : Ending) (w' : World) : Prop :=
  (if M.length ≤ 64 then ∃ v, e = .returned (.tuple #[v, .nilIface]) ∧ Row rAAr w.heap.size w' v M else e = .returned (.tuple #[.slice none 0 0, .iface 48 (.int .i64 5)])) ∧ Below w.heap.size w w'
theorem SideW.lay {w W w' : World} {M : List AAr} {e : Ending} (h : SideW W M e w') (hb : Below w.heap.size w W) : LayW w M e w' := by
  refine ⟨?_, below_call' hb h.2⟩
  have h1 := h.1
  by_cases c : M.length ≤ 64
  · rw [if_pos c] at h1 ⊢
    obtain ⟨v, e1, r⟩ := h1
    exact ⟨v, e1, r.lower hb.size⟩
  · rw [if_neg c] at h1 ⊢
    exact h1
set_option maxRecDepth 100000 in
set_option maxHeartbeats 8000000 in
theorem cut_any {w : World} {ao : Option Addr} {c : Nat} {L : List AAr} (hs : Sn rAAr w ao L) (hm : L.length ≤ maxLen) (a b : Int) :
    Calls Try.prog 48 #[.slice ao L.length c, .int .i64 a, .int .i64 b] w fun e w' => ((MayA L ∧ SpanA a b) ∧ LayW w (layM L a b []) e w') ∨ ((¬ (MayA L ∧ SpanA a b) ∧ e = .returned (.tuple #[.slice none 0 0, .iface 48 (.int .i64 1)])) ∧ Below w.heap.size w w') := by
  have hC := chkspan_any (c := c) hs hm a b
  have HS : Hid (Sn rAAr w ao L) := hs
  clear hs
  go_enter Try.func48, Try.ntmps48
  go_wp2_with fail
  refine hC.mono ?_
  rintro e w1 ⟨h, hb⟩
  have HB1 : Hid (Below w.heap.size w w1) := hb
  clear hb hC
  rcases h with ⟨hM, rfl⟩ | ⟨hM, rfl⟩
  · have HM : Hid (MayA L ∧ SpanA a b) := hM
    have hbl := below_any (c := c) (HS.out.below HB1.out) (by have := hM.1.1; omega) a
    clear hM hm
    go_wp2_with fail
    refine hbl.mono ?_
    rintro e w2 ⟨v1, rfl, r1, hb2⟩
    have HB2 : Hid (Below w.heap.size w w2) := below_call' HB1.out hb2
    have hab := above_any (c := c) (HS.out.below HB2.out) (by have := HM.out.1.1; omega) b
    have HR1 : Hid (Row rAAr w1.heap.size w2 v1 (clipA 0 a L)) := r1
    clear r1 hb2 hbl
    go_wp2_with fail
    refine hab.mono ?_
    rintro e w3 ⟨v2, rfl, r2, hb3⟩
    have HB3 : Hid (Below w.heap.size w w3) := below_call' HB2.out hb3
    have R1 := HR1.out.below hb3
    obtain ⟨a1, c1, rfl⟩ := R1.form
    obtain ⟨a2, c2, rfl⟩ := r2.form
    have HB4 : Hid (Below w3.heap.size w3 (w3.alloc (.cells #[.slice a1 (clipA 0 a L).length c1, .slice a2 (clipA b 4096 L).length c2] 51))) := (Below.refl _ _).alloc (Nat.le_refl _) _
    have hSd := side_any (w := w3.alloc (.cells #[.slice a1 (clipA 0 a L).length c1, .slice a2 (clipA b 4096 L).length c2] 51)) (b := w3.heap.size) (c := 2) (T := [(a1, c1, clipA 0 a L), (a2, c2, clipA b 4096 L)]) (fun i hi => by
      have s1 := (R1.sn).below HB4.out
      have s2 := (r2.sn).below HB4.out
      rcases i with _ | _ | i
      · exact ⟨cell_of_row _ _ _ _ _ _ (heap_alloc_new w3 _), s1⟩
      · exact ⟨cell_of_row _ _ _ _ _ _ (heap_alloc_new w3 _), s2⟩
      · exact absurd (show i + 1 + 1 < 2 from hi) (by omega)) (by simp) (by simp) (by
      have h1 := clip_len 0 a L
      have h2 := clip_len b 4096 L
      have h3 := HM.out.1.1
      simp [joinL]
      omega)
    have HJ : Hid (mrgA [] (joinL [(a1, c1, clipA 0 a L), (a2, c2, clipA b 4096 L)]) = layM L a b []) := by simp [joinL, layM, layX, Hid]
    rw [HJ.out] at hSd
    have HLW : Hid (∀ e w', SideW (w3.alloc (.cells #[.slice a1 (clipA 0 a L).length c1, .slice a2 (clipA b 4096 L).length c2] 51)) (layM L a b []) e w' → LayW w (layM L a b []) e w') := fun e w' h => h.lay (below_call' HB3.out HB4.out)
    clear R1 r2 hb3 hab HJ
    simp only [List.length_cons, List.length_nil] at hSd
    go_wp2_with fail
    refine hSd.mono ?_
    rintro e w5 h5
    have h6 := HLW.out e w5 h5
    have HMM : Hid (MayA L ∧ SpanA a b) := HM
    clear hSd h5 HLW HM
    by_cases c6 : (layM L a b []).length ≤ 64
    · have h7 := h6.1
      rw [if_pos c6] at h7
      obtain ⟨v, rfl, -⟩ := h7
      have H6 : Hid (LayW w (layM L a b []) (.returned (.tuple #[v, .nilIface])) w5) := h6
      clear h6
      go_wp2
      go_ret2
      exact Or.inl ⟨HMM.out, H6.out⟩
    · have h7 := h6.1
      rw [if_neg c6] at h7
      subst h7
      have H6 : Hid (LayW w (layM L a b []) (.returned (.tuple #[.slice none 0 0, .iface 48 (.int .i64 5)])) w5) := h6
      clear h6
      go_wp2
      go_ret2
      exact Or.inl ⟨HMM.out, H6.out⟩
  · have HM : Hid (¬ (MayA L ∧ SpanA a b)) := hM
    clear hM
    go_wp2
    go_ret2
    exact Or.inr ⟨⟨HM.out, rfl⟩, HB1.out⟩

/-- What stands between Lay's calls: what was ahead of them does, and the argument's cells. -/
def PreA (w w1 W : World) : Prop := Below w.heap.size w W ∧ w.heap.size < W.heap.size ∧ ∀ o, W.cell? ⟨w.heap.size, o, none⟩ = w1.cell? ⟨w.heap.size, o, none⟩
theorem PreA.below {w w1 W W' : World} (h : PreA w w1 W) (hb : Below W.heap.size W W') : PreA w w1 W' := ⟨below_call' h.1 hb, Nat.lt_of_lt_of_le h.2.1 hb.size, fun o => ((bcell hb).1 _ o h.2.1).trans (h.2.2 o)⟩
theorem new_below (w : World) (o : Obj) : Below w.heap.size w (w.alloc o) := (Below.refl _ _).alloc (Nat.le_refl _) _
theorem PreA.alloc {w w1 W : World} (h : PreA w w1 W) (o : Obj) : PreA w w1 (W.alloc o) := h.below (new_below _ _)
theorem PreA.drew {w w1 W : World} (h : PreA w w1 W) : PreA w w1 W.drew := h.below (Below.refl _ _).drew
theorem Sn.newd (w : World) (d : AAr) : Sn rAAr (w.alloc (.cells d.arr 55)) (some ⟨w.heap.size, 0, none⟩) [d] := Sn.one (by simp) (At.new (R := rAAr) w d _ rfl)
theorem lay_first {w w1 W : World} {ao : Option Addr} {c : Nat} {L : List AAr} (hs : Sn rAAr w ao L) (hm : L.length ≤ 64) (a : Int) (hp : PreA w w1 W) :
    Calls Try.prog 60 #[.slice ao L.length c, .int .i64 a] W fun e w2 => ∃ a1 k1, e = .returned (.slice a1 (clipA 0 a L).length k1) ∧ Hid (PreA w w1 w2 ∧ Sn rAAr w2 a1 (clipA 0 a L) ∧ Below W.heap.size W w2) ∧ ∀ o, w2.cell? ⟨w.heap.size, o, none⟩ = w1.cell? ⟨w.heap.size, o, none⟩ :=
  (below_any (c := c) (hs.below hp.1) (by omega) a).mono fun e w2 ⟨v, e1, r, hb2⟩ => by
    obtain ⟨a1, k1, e2⟩ := r.form
    subst e2
    exact ⟨a1, k1, e1, ⟨hp.below hb2, r.sn, hb2⟩, (hp.below hb2).2.2⟩
theorem lay_second {w w1 W : World} {ao : Option Addr} {c : Nat} {L : List AAr} (hs : Sn rAAr w ao L) (hm : L.length ≤ 64) (b : Int) (hp : PreA w w1 W) :
    Calls Try.prog 61 #[.slice ao L.length c, .int .i64 b] W fun e w3 => ∃ a2 k2, e = .returned (.slice a2 (clipA b 4096 L).length k2) ∧ Hid (PreA w w1 w3 ∧ Sn rAAr w3 a2 (clipA b 4096 L) ∧ Below W.heap.size W w3) ∧ ∀ o, w3.cell? ⟨w.heap.size, o, none⟩ = w1.cell? ⟨w.heap.size, o, none⟩ :=
  (above_any (c := c) (hs.below hp.1) (by omega) b).mono fun e w3 ⟨v, e1, r, hb3⟩ => by
    obtain ⟨a2, k2, e2⟩ := r.form
    subst e2
    exact ⟨a2, k2, e1, ⟨hp.below hb3, r.sn, hb3⟩, (hp.below hb3).2.2⟩
theorem side3_any {W : World} {a1 a2 a3 : Option Addr} {k1 k2 k3 : Nat} {A B C : List AAr} (s1 : Sn rAAr W a1 A) (s2 : Sn rAAr W a2 B) (s3 : Sn rAAr W a3 C) (hl : A.length + B.length + C.length ≤ 900) :
    Calls Try.prog 59 #[.slice (some ⟨W.heap.size, 0, none⟩) 3 3] (W.alloc (.cells #[.slice a1 A.length k1, .slice a2 B.length k2, .slice a3 C.length k3] 51)) fun e w' => ∃ v u, e = .returned (.tuple #[v, u]) ∧ LayW W (mrgA [] (A ++ B ++ C)) (.returned (.tuple #[v, u])) w' := by
  have hb4 := new_below W (.cells #[.slice a1 A.length k1, .slice a2 B.length k2, .slice a3 C.length k3] 51)
  have t1 := s1.below hb4
  have t2 := s2.below hb4
  have t3 := s3.below hb4
  have hj : joinL [(a1, k1, A), (a2, k2, B), (a3, k3, C)] = A ++ B ++ C := by simp [joinL]
  have h := side_any (w := W.alloc (.cells #[.slice a1 A.length k1, .slice a2 B.length k2, .slice a3 C.length k3] 51)) (b := W.heap.size) (c := 3) (T := [(a1, k1, A), (a2, k2, B), (a3, k3, C)]) (fun i hi => by
    rcases i with _ | _ | _ | i
    · exact ⟨cell_of_row _ _ _ _ _ _ (heap_alloc_new W _), t1⟩
    · exact ⟨cell_of_row _ _ _ _ _ _ (heap_alloc_new W _), t2⟩
    · exact ⟨cell_of_row _ _ _ _ _ _ (heap_alloc_new W _), t3⟩
    · exact absurd (show i + 1 + 1 + 1 < 3 from hi) (by omega)) (by simp) (by simp) (by
    rw [hj]
    simp only [List.length_append]
    omega)
  rw [hj] at h
  refine h.mono fun e w' h5 => ?_
  have h6 := h5.lay hb4
  have h7 := h6.1
  by_cases c6 : (mrgA [] (A ++ B ++ C)).length ≤ 64
  · rw [if_pos c6] at h7
    obtain ⟨v, rfl, -⟩ := h7
    exact ⟨v, _, rfl, h6⟩
  · rw [if_neg c6] at h7
    subst h7
    exact ⟨_, _, rfl, h6⟩
theorem LayW.more {w W w' : World} {M : List AAr} {e : Ending} (h : LayW W M e w') (hb : Below w.heap.size w W) : LayW w M e w' := by
  refine ⟨?_, below_call' hb h.2⟩
  have h1 := h.1
  by_cases c : M.length ≤ 64
  · rw [if_pos c] at h1 ⊢
    obtain ⟨v, e1, r⟩ := h1
    exact ⟨v, e1, r.lower hb.size⟩
  · rw [if_neg c] at h1 ⊢
    exact h1
theorem lay_third {w w1 W : World} {a1 a2 a3 : Option Addr} {k1 k2 k3 g : Nat} {A B C : List AAr} (hg : g = W.heap.size) (hl : A.length + B.length + C.length ≤ 900) (hp : PreA w w1 W) (s1 : Sn rAAr W a1 A) (s2 : Sn rAAr W a2 B) (s3 : Sn rAAr W a3 C) :
    Calls Try.prog 59 #[.slice (some ⟨g, 0, none⟩) 3 3] (W.alloc (.cells #[.slice a1 A.length k1, .slice a2 B.length k2, .slice a3 C.length k3] 51)) fun e w' => ∃ v u, e = .returned (.tuple #[v, u]) ∧ Hid (LayW w (mrgA [] (A ++ B ++ C)) (.returned (.tuple #[v, u])) w') ∧ ∀ o, w'.cell? ⟨w.heap.size, o, none⟩ = w1.cell? ⟨w.heap.size, o, none⟩ :=
  by
  subst hg
  exact (side3_any s1 s2 s3 hl).mono fun _ _ ⟨v, u, h1, h2⟩ => ⟨v, u, h1, h2.more hp.1, (hp.below h2.2).2.2⟩
set_option maxRecDepth 100000 in
set_option maxHeartbeats 8000000 in
theorem lay_any {w : World} {ao : Option Addr} {c : Nat} {L : List AAr} (hs : Sn rAAr w ao L) (hm : L.length ≤ maxLen) (d : AAr) :
    Calls Try.prog 43 #[.slice ao L.length c, av d] w fun e w' => ((MayA L ∧ SpanA d.a d.b) ∧ LayW w (layM L d.a d.b [d]) e w') ∨ ((¬ (MayA L ∧ SpanA d.a d.b) ∧ e = .returned (.tuple #[.slice none 0 0, .iface 48 (.int .i64 1)])) ∧ Below w.heap.size w w') := by
  have hB0 : Below w.heap.size w (w.alloc (.cells d.arr 55)) := (Below.refl _ _).alloc (Nat.le_refl _) _
  have hC := chkspan_any (c := c) (hs.below hB0) hm d.a d.b
  have HB0 : Hid (Below w.heap.size w (w.alloc (.cells d.arr 55)) ∧ Laid (w.alloc (.cells d.arr 55)) w.heap.size 55 d.arr) := ⟨hB0, Laid.new _ _ _⟩
  have HS : Hid (Sn rAAr w ao L) := hs
  clear hs hB0
  obtain ⟨a, b, x2, x3, x4⟩ := d
  unfold AAr.arr at HB0 hC
  unfold av
  simp only at *
  go_enter Try.func43, Try.ntmps43
  go_wp2_with fail
  refine hC.mono ?_
  rintro e w1 ⟨h, hb⟩
  have HB1 : Hid (Below w.heap.size w w1) := below_call HB0.out.1 HB0.out.1.size hb
  have X1 := HB0.out.2.below hb
  clear hb hC
  rcases h with ⟨hM, rfl⟩ | ⟨hM, rfl⟩
  · have HM : Hid (MayA L ∧ SpanA a b) := hM
    obtain ⟨c0, c1, c2, c3, c4⟩ := AAr.laid (d := ⟨a, b, x2, x3, x4⟩) X1
    simp only at c0 c1 c2 c3 c4
    have HP : Hid (PreA w w1 w1) := ⟨HB1.out, X1.lt, fun _ => rfl⟩
    have HLEN : Hid ((clipA 0 a L).length + [(⟨a, b, x2, x3, x4⟩ : AAr)].length + (clipA b 4096 L).length ≤ 900) := by
      have h1 := clip_len 0 a L
      have h2 := clip_len b 4096 L
      have h3 := HM.out.1.1
      simp only [Hid, List.length_cons, List.length_nil]
      omega
    clear hM hm HB0 X1
    go_wp2_with fail
    go_region_held3 (fun w' => w'.cell? ⟨w.heap.size, 0, none⟩ = some (.int .i64 a) ∧ w'.cell? ⟨w.heap.size, 1, none⟩ = some (.int .i64 b) ∧ w'.cell? ⟨w.heap.size, 2, none⟩ = some (.bool x2) ∧ w'.cell? ⟨w.heap.size, 3, none⟩ = some (.bool x3) ∧ w'.cell? ⟨w.heap.size, 4, none⟩ = some (.bool x4)) (go_keep) (first | (go_at_call 60; refine Calls.mono (lay_first (w := w) (w1 := w1) HS.out HM.out.1.1 a ?q1) ?_; (case q1 => first | exact HP.out.drew | exact HP.out | exact HP.out.drew.alloc (.cells #[.int .i64 a, .int .i64 b, .bool x2, .bool x3, .bool x4] 55) | exact (HP.out.alloc (.cells #[.int .i64 a, .int .i64 b, .bool x2, .bool x3, .bool x4] 55)).drew | exact HP.out.alloc (.cells #[.int .i64 a, .int .i64 b, .bool x2, .bool x3, .bool x4] 55)); rintro e w2 ⟨a1, k1, rfl, H2, hx2⟩) | (go_at_call 61; refine Calls.mono (lay_second (w := w) (w1 := w1) HS.out HM.out.1.1 b ?q1) ?_; (case q1 => first | exact H2.out.1 | exact H2.out.1.alloc (.cells #[.int .i64 a, .int .i64 b, .bool x2, .bool x3, .bool x4] 55)); rintro e w3 ⟨a2, k2, rfl, H3, hx3⟩) | (go_at_call 59; refine Calls.mono (lay_third (w := w) (w1 := w1) ?q0 HLEN.out ?q1 ?q2 ?q3 ?q4) ?_; (case q0 => first | rfl | simp); (case q1 => first | exact H3.out.1 | exact H3.out.1.alloc (.cells #[.int .i64 a, .int .i64 b, .bool x2, .bool x3, .bool x4] 55)); (case q2 => first | exact (H2.out.2.1.below (new_below w2 (.cells #[.int .i64 a, .int .i64 b, .bool x2, .bool x3, .bool x4] 55))).below H3.out.2.2 | exact (H2.out.2.1.below H3.out.2.2).below (new_below w3 (.cells #[.int .i64 a, .int .i64 b, .bool x2, .bool x3, .bool x4] 55)) | exact H2.out.2.1.below H3.out.2.2); (case q3 => first | exact (Sn.newd w2 ⟨a, b, x2, x3, x4⟩).below H3.out.2.2 | exact Sn.newd w3 ⟨a, b, x2, x3, x4⟩ | exact ((Sn.newd w1.drew ⟨a, b, x2, x3, x4⟩).below H2.out.2.2).below H3.out.2.2 | exact ((Sn.newd w1 ⟨a, b, x2, x3, x4⟩).below H2.out.2.2).below H3.out.2.2); (case q4 => first | exact H3.out.2.1 | exact H3.out.2.1.below (new_below w3 (.cells #[.int .i64 a, .int .i64 b, .bool x2, .bool x3, .bool x4] 55))); rintro e w5 ⟨v, u, rfl, H5, hx5⟩))
    all_goals
      have H6 : Hid (LayW w (layM L a b [⟨a, b, x2, x3, x4⟩]) (.returned (.tuple #[v, u])) w5) := H5
      clear hx2 hx3 hx5 H5
      go_wp2
      go_ret2
      exact Or.inl ⟨HM.out, H6.out⟩
  · have HM : Hid (¬ (MayA L ∧ SpanA a b)) := hM
    clear hM
    go_wp2
    go_ret2
    exact Or.inr ⟨⟨HM.out, rfl⟩, HB1.out⟩
end Go.Proofs.Ytoimmapdkapheaa
/- Something laid on each area of some pages; Change, Advise. -/
namespace Go.Proofs.Ytoimmapdkapheaa
set_option maxRecDepth 4000
open Go.RowKit

/-- What is asked of a function value that turns an area through a pointer. -/
def Turns (f : Nat) (lb : Array Value) (t : Pg → Pg) (w : World) : Prop :=
  (∀ args w, (callFunc f args).run Try.prog w = .ok (.enter f args) w) ∧ ∀ W g n c l k, Below w.heap.size w W → Row rAAr w.heap.size W (.slice (some ⟨g, 0, none⟩) n c) l → k < l.length → Calls Try.prog f (#[.pointer (some ⟨g, k * 5, none⟩)] ++ lb) W fun e w' => e = .returned (.tuple #[]) ∧ Row rAAr w.heap.size w' (.slice (some ⟨g, 0, none⟩) n c) (l.set k ((l.getD k AAr.zero).turn t)) ∧ Keeps W w' (fun b => b = g)

set_option maxHeartbeats 2000000 in
theorem change1_turns (w : World) (b : Nat) (x y : Bool) (hb : Laid w b 31 #[.bool x, .bool y]) : Turns 56 #[.pointer (some ⟨b, 0, none⟩)] (fun p => (x, y, p.2.2)) w := by
  refine ⟨enters_of Try.func56 (by kernel_rfl) rfl, fun W g n c l k hB hr hk => ?_⟩
  obtain ⟨q0, q1⟩ : W.cell? ⟨b, 0, none⟩ = some (.bool x) ∧ W.cell? ⟨b, 1, none⟩ = some (.bool y) := ⟨(hb.below hB).cell 0, (hb.below hB).cell 1⟩
  obtain ⟨g', e', -, hgB, hg, -, -, hat⟩ := hr.at hk
  cases e'
  obtain ⟨c0, c1, c2, c3, c4⟩ := AAr.at hat
  simp only [show rAAr.n = 5 from rfl, show rAAr.zero = AAr.zero from rfl] at c0 c1 c2 c3 c4
  have hf := fun o => hr.frozen o
  have hne : g ≠ b := by have := hb.lt; omega
  have HE : Hid (∃ d, l.getD k AAr.zero = d) := ⟨_, rfl⟩
  obtain ⟨d, hd⟩ := HE.out
  have HD : Hid (l.getD k AAr.zero = d) := hd
  have HR : Hid (Row rAAr w.heap.size (W.setCells g (k * 5 + 2) [.bool x, .bool y]) (.slice (some ⟨g, 0, none⟩) n c) (l.set k ((l.getD k AAr.zero).turn fun p => (x, y, p.2.2)))) := by
    refine hr.sets k 2 [.bool x, .bool y] _ hk (show 2 + 2 ≤ 5 by decide) (fun j hj => ?_) (fun j hj hn => ?_)
    · have hj2 : j < 2 := hj
      match j, hj2 with
      | 0, _ => rfl
      | 1, _ => rfl
    · have hj5 : j < 5 := hj
      have hn2 : j < 2 ∨ 4 ≤ j := hn
      match j, hj5, hn2 with
      | 0, _, _ => rfl
      | 1, _, _ => rfl
      | 4, _, _ => rfl
      | 2, _, h => exact absurd h (by omega)
      | 3, _, h => exact absurd h (by omega)
  rw [hd] at c0 c1 c2 c3 c4
  clear hb hB hr hat hd HE
  go_enter Try.func56, Try.ntmps56
  go_wp2
  first | go_end0 | (refine bodyPost_ret (results_none rfl _ _ _) rfl ?_)
  exact ⟨rfl, HR.out, Keeps.sets [.bool x, .bool y] W g (k * 5 + 2)⟩

set_option maxHeartbeats 2000000 in
theorem advise1_turns (w : World) (b : Nat) (x : Bool) (hb : Laid w b 4 #[.bool x]) : Turns 67 #[.pointer (some ⟨b, 0, none⟩)] (fun p => (p.1, p.2.1, x)) w := by
  refine ⟨enters_of Try.func67 (by kernel_rfl) rfl, fun W g n c l k hB hr hk => ?_⟩
  have q0 : W.cell? ⟨b, 0, none⟩ = some (.bool x) := (hb.below hB).cell 0
  obtain ⟨g', e', -, hgB, hg, -, -, hat⟩ := hr.at hk
  cases e'
  obtain ⟨c0, c1, c2, c3, c4⟩ := AAr.at hat
  simp only [show rAAr.n = 5 from rfl, show rAAr.zero = AAr.zero from rfl] at c0 c1 c2 c3 c4
  have hf := fun o => hr.frozen o
  have hne : g ≠ b := by have := hb.lt; omega
  obtain ⟨d, hd⟩ : ∃ d, l.getD k AAr.zero = d := ⟨_, rfl⟩
  have HR : Hid (Row rAAr w.heap.size (W.setCells g (k * 5 + 4) [.bool x]) (.slice (some ⟨g, 0, none⟩) n c) (l.set k ((l.getD k AAr.zero).turn fun p => (p.1, p.2.1, x)))) := by
    refine hr.sets k 4 [.bool x] _ hk (show 4 + 1 ≤ 5 by decide) (fun j hj => ?_) (fun j hj hn => ?_)
    · have hj2 : j < 1 := hj
      match j, hj2 with
      | 0, _ => rfl
    · have hj5 : j < 5 := hj
      have hn2 : j < 4 ∨ 5 ≤ j := hn
      match j, hj5, hn2 with
      | 0, _, _ => rfl
      | 1, _, _ => rfl
      | 2, _, _ => rfl
      | 3, _, _ => rfl
      | 4, _, h => exact absurd h (by omega)
  rw [hd] at c0 c1 c2 c3 c4
  clear hb hB hr hat hd
  go_enter Try.func67, Try.ntmps67
  go_wp2
  first | go_end0 | (refine bodyPost_ret (results_none rfl _ _ _) rfl ?_)
  exact ⟨rfl, HR.out, Keeps.sets [.bool x] W g (k * 5 + 4)⟩

/-- The first k of them turned. -/
def trnN (t : Pg → Pg) (k : Nat) (l : List AAr) : List AAr := (l.take k).map (AAr.turn t) ++ l.drop k
theorem trn_len (t : Pg → Pg) (k : Nat) (l : List AAr) : (trnN t k l).length = l.length := by simp [trnN]; omega
theorem trn_zero (t : Pg → Pg) (l : List AAr) : trnN t 0 l = l := rfl
theorem trn_all (t : Pg → Pg) (l : List AAr) : trnN t l.length l = l.map (AAr.turn t) := by simp [trnN]
theorem trn_get (t : Pg → Pg) {k : Nat} {l : List AAr} (h : k < l.length) : (trnN t k l).getD k AAr.zero = l.getD k AAr.zero := by
  unfold trnN
  rw [List.getD_eq_getElem?_getD, List.getElem?_append_right (by simp; omega), List.getElem?_drop, List.getD_eq_getElem?_getD]
  simp only [List.length_map, List.length_take]
  rw [Nat.min_eq_left (Nat.le_of_lt h), Nat.sub_self, Nat.add_zero]
theorem trn_step (t : Pg → Pg) {k : Nat} {l : List AAr} (h : k < l.length) : (trnN t k l).set k ((l.getD k AAr.zero).turn t) = trnN t (k + 1) l := by
  unfold trnN
  rw [List.set_append_right _ _ (by simp; omega), take_one l h AAr.zero, drop_cons l h]
  simp only [List.length_map, List.length_take, List.map_append, List.map_cons, List.map_nil, List.append_assoc, List.cons_append, List.nil_append]
  rw [Nat.min_eq_left (Nat.le_of_lt h), Nat.sub_self]
  rfl
/-- What Change, and Advise, tell. -/
def EachW (w : World) (L : List AAr) (a b : Int) (t : Pg → Pg) (e : Ending) (w' : World) : Prop :=
  ((MayA L ∧ SpanA a b) ∧ covA a b (clipA a b L) = true ∧ LayW w (layM L a b ((clipA a b L).map (AAr.turn t))) e w') ∨
  ((MayA L ∧ SpanA a b) ∧ covA a b (clipA a b L) = false ∧ e = .returned (.tuple #[.slice none 0 0, .iface 48 (.int .i64 3)]) ∧ Below w.heap.size w w') ∨
  (¬ (MayA L ∧ SpanA a b) ∧ e = .returned (.tuple #[.slice none 0 0, .iface 48 (.int .i64 1)]) ∧ Below w.heap.size w w')
theorem EachW.more {w W w' : World} {L : List AAr} {a b : Int} {t : Pg → Pg} {e : Ending} (h : EachW W L a b t e w') (hb : Below w.heap.size w W) : EachW w L a b t e w' := by
  rcases h with ⟨h1, h2, h3⟩ | ⟨h1, h2, h3, h4⟩ | ⟨h1, h2, h3⟩
  · exact Or.inl ⟨h1, h2, h3.more hb⟩
  · exact Or.inr (Or.inl ⟨h1, h2, h3, below_call' hb h4⟩)
  · exact Or.inr (Or.inr ⟨h1, h2, below_call' hb h3⟩)
theorem LayW.pair {w w' : World} {M : List AAr} {e : Ending} (h : LayW w M e w') : ∃ v u, e = .returned (.tuple #[v, u]) := by
  have h1 := h.1
  by_cases c : M.length ≤ 64
  · rw [if_pos c] at h1
    obtain ⟨v, e1, -⟩ := h1
    exact ⟨v, _, e1⟩
  · rw [if_neg c] at h1
    exact ⟨_, _, h1⟩
theorem EachW.pair {w w' : World} {L : List AAr} {a b : Int} {t : Pg → Pg} {e : Ending} (h : EachW w L a b t e w') : ∃ v u, e = .returned (.tuple #[v, u]) := by
  rcases h with ⟨_, _, h3⟩ | ⟨_, _, h3, _⟩ | ⟨_, h2, _⟩
  · exact h3.pair
  · exact ⟨_, _, h3⟩
  · exact ⟨_, _, h2⟩
set_option maxRecDepth 100000 in
set_option maxHeartbeats 8000000 in
theorem each_any {w : World} {ao : Option Addr} {c : Nat} {L : List AAr} (hs : Sn rAAr w ao L) (hm : L.length ≤ maxLen) (a b : Int) (f : Nat) (lb : Array Value) (t : Pg → Pg) (hT : Turns f lb t w) :
    Calls Try.prog 55 #[.slice ao L.length c, .int .i64 a, .int .i64 b, .func (.func f) #[] lb] w (EachW w L a b t) := by
  have hC := chkspan_any (c := c) hs hm a b
  obtain ⟨eg, hT⟩ := hT
  have HT : Hid (∀ W g n c l k, Below w.heap.size w W → Row rAAr w.heap.size W (.slice (some ⟨g, 0, none⟩) n c) l → k < l.length → Calls Try.prog f (#[.pointer (some ⟨g, k * 5, none⟩)] ++ lb) W fun e w' => e = .returned (.tuple #[]) ∧ Row rAAr w.heap.size w' (.slice (some ⟨g, 0, none⟩) n c) (l.set k ((l.getD k AAr.zero).turn t)) ∧ Keeps W w' (fun b => b = g)) := hT
  have HS : Hid (Sn rAAr w ao L) := hs
  clear hs hT
  go_enter Try.func55, Try.ntmps55
  go_wp2_with fail
  refine hC.mono ?_
  rintro e w1 ⟨h, hb⟩
  have HB1 : Hid (Below w.heap.size w w1) := hb
  clear hb hC
  rcases h with ⟨hM, rfl⟩ | ⟨hM, rfl⟩
  · have HM : Hid (MayA L ∧ SpanA a b) := hM
    have hW := within_any (c := c) (HS.out.below HB1.out) (by have := hM.1.1; omega) a b
    clear hM hm
    go_wp2_with fail
    refine hW.mono ?_
    rintro e w2 ⟨v1, rfl, r1, hb2⟩
    obtain ⟨a1, k1, rfl⟩ := r1.form
    have HB2 : Hid (Below w.heap.size w w2) := below_call' HB1.out hb2
    have HR2 : Hid (Row rAAr w.heap.size w2 (.slice a1 (clipA a b L).length k1) (clipA a b L)) := r1.lower HB1.out.size
    have hcl := clip_len a b L
    have hcl2 : (clipA a b L).length ≤ 64 := by have := HM.out.1.1; omega
    have hCv := covers_any (c := k1) (r1.sn) (by omega) a b
    have HCL : Hid ((clipA a b L).length ≤ 64) := hcl2
    have HPO : Hid (∀ e w', EachW w L a b t e w' → EachW w L a b t e w') := fun _ _ h => h
    clear hW r1 hb2 hcl
    obtain ⟨I, hI⟩ : ∃ I, clipA a b L = I := ⟨_, rfl⟩
    have HI : Hid (clipA a b L = I) := hI
    rw [hI] at hCv hcl2 HR2 HCL
    rw [hI]
    clear hI
    cases hcv : covA a b I with
    | false =>
      rw [hcv] at hCv
      have HCV : Hid (covA a b I = false) := hcv
      clear hcv
      go_wp2_with fail
      refine hCv.mono ?_
      rintro e w3 ⟨rfl, hb3⟩
      have HB3 : Hid (Below w.heap.size w w3) := below_call' HB2.out hb3
      clear hCv hb3
      go_wp2
      go_ret2
      exact Or.inr (Or.inl ⟨HM.out, by rw [HI.out]; exact HCV.out, rfl, HB3.out⟩)
    | true =>
      rw [hcv] at hCv
      have HCV : Hid (covA a b I = true) := hcv
      clear hcv
      go_wp2_with fail
      refine hCv.mono ?_
      rintro e w3 ⟨rfl, hb3⟩
      have HB3 : Hid (Below w.heap.size w w3) := below_call' HB2.out hb3
      have HR3 : Hid (Row rAAr w.heap.size w3 (.slice a1 I.length k1) (trnN t 0 I)) := HR2.out.below hb3
      clear hCv hb3
      go_wp2
      go_loopw [32] (fun iv W => ∃ k : Nat, k ≤ I.length ∧ iv = .int .i64 k ∧ Hid (Row rAAr w.heap.size W (.slice a1 I.length k1) (trnN t k I)) ∧ Hid (Below w.heap.size w W)) (fun iv _ => I.length - (intOf iv).toNat)
      case atStart => exact ⟨0, Nat.zero_le _, rfl, HR3, HB3⟩
      case round =>
        obtain ⟨k, hk, rfl, HR, HB⟩ := hrel
        by_cases hlt : k < I.length
        · have hltz : (k : Int) < (I.length : Int) := by omega
          have hlt' : k < (trnN t k I).length := by rw [trn_len]; exact hlt
          obtain ⟨g, rfl, -, -, hg, -, -, -⟩ := HR.out.at hlt'
          have hcall := HT.out wr g I.length k1 (trnN t k I) k HB.out HR.out hlt'
          rw [trn_get t hlt, trn_step t hlt] at hcall
          have HGB : Hid (w.heap.size ≤ g) := (HR.out.lt g rfl).1
          clear hlt'
          go_wp2_with (go_at_fn f; refine hcall.mono ?_; rintro e w4 ⟨rfl, r4, k4⟩)
          have HR4 : Hid (Row rAAr w.heap.size w4 (.slice (some ⟨g, 0, none⟩) I.length k1) (trnN t (k + 1) I)) := r4
          have HB4 : Hid (Below w.heap.size w w4) := HB.out.trans (k4.below HB.out.size fun c _ e => by rw [e]; exact HGB.out)
          clear hcall r4 k4
          go_wp2
          go_roundw
          case rel => exact ⟨k + 1, by omega, by go_num, HR4, HB4⟩
          case measure => simp only [intOf]; omega
        · obtain rfl : k = I.length := by omega
          have HRT : Hid (Row rAAr w.heap.size wr (.slice a1 I.length k1) (I.map (AAr.turn t))) := by
            rw [← trn_all]
            exact HR.out
          have hbl := below_any (c := c) (HS.out.below HB.out) (by have := HM.out.1.1; omega) a
          clear HR3 HB3 HR2 HB2 HR HT
          go_wp2_with fail
          refine hbl.mono ?_
          rintro e w5 ⟨v5, rfl, r5, hb5⟩
          obtain ⟨a5, k5, rfl⟩ := r5.form
          have HB5 : Hid (Below w.heap.size w w5) := below_call' HB.out hb5
          have HR5 : Hid (Sn rAAr w5 a5 (clipA 0 a L) ∧ Row rAAr w.heap.size w5 (.slice a1 I.length k1) (I.map (AAr.turn t))) := ⟨r5.sn, HRT.out.below hb5⟩
          have hab := above_any (c := c) (HS.out.below HB5.out) (by have := HM.out.1.1; omega) b
          clear hbl r5 hb5 HRT
          go_wp2_with fail
          refine hab.mono ?_
          rintro e w6 ⟨v6, rfl, r6, hb6⟩
          obtain ⟨a6, k6, rfl⟩ := r6.form
          have HB6 : Hid (Below w.heap.size w w6) := below_call' HB5.out hb6
          have hrm := HR5.out.2.below hb6
          have hil : (I.map (AAr.turn t)).length = I.length := by simp
          have hSd := side3_any (k1 := k5) (k2 := k1) (k3 := k6) (HR5.out.1.below hb6) ((show Row rAAr w.heap.size w6 (.slice a1 I.length k1) (I.map (AAr.turn t)) from hrm).sn) r6.sn (by
            have h1 := clip_len 0 a L
            have h2 := clip_len b 4096 L
            have h3 := HM.out.1.1
            have h4 := HCL.out
            rw [hil]
            omega)
          rw [hil] at hSd
          clear hab r6 hb6 hrm hil
          go_wp2_with fail
          refine hSd.mono ?_
          rintro e w7 ⟨v, u, rfl, h7⟩
          have H7 : Hid (LayW w (layM L a b (I.map (AAr.turn t))) (.returned (.tuple #[v, u])) w7) := h7.more HB6.out
          clear hSd h7
          go_wp2
          go_ret2
          exact Or.inl ⟨HM.out, by rw [HI.out]; exact HCV.out, by rw [HI.out]; exact H7.out⟩
  · have HM : Hid (¬ (MayA L ∧ SpanA a b)) := hM
    clear hM
    go_wp2
    go_ret2
    exact Or.inr (Or.inr ⟨HM.out, rfl, HB1.out⟩)

set_option maxHeartbeats 2000000 in
theorem change_any {w : World} {ao : Option Addr} {c : Nat} {L : List AAr} (hs : Sn rAAr w ao L) (hm : L.length ≤ maxLen) (a b : Int) (x y : Bool) :
    Calls Try.prog 39 #[.slice ao L.length c, .int .i64 a, .int .i64 b, .agg #[.bool x, .bool y]] w (EachW w L a b (fun p => (x, y, p.2.2))) := by
  have hb0 := new_below w (.cells #[.bool x, .bool y] 31)
  have hE := each_any (c := c) (hs.below hb0) hm a b 56 _ (fun p => (x, y, p.2.2)) (change1_turns (w.alloc (.cells #[.bool x, .bool y] 31)) w.heap.size x y (Laid.new _ _ _))
  have HB0 : Hid (Below w.heap.size w (w.alloc (.cells #[.bool x, .bool y] 31))) := hb0
  clear hs hb0
  go_enter Try.func39, Try.ntmps39
  go_wp2_with fail
  refine hE.mono ?_
  rintro e w1 h
  have h' : EachW w L a b (fun p => (x, y, p.2.2)) e w1 := h.more HB0.out
  clear hE h
  obtain ⟨v, u, rfl⟩ := h'.pair
  have H : Hid (EachW w L a b (fun p => (x, y, p.2.2)) (.returned (.tuple #[v, u])) w1) := h'
  clear h'
  go_wp2
  go_ret2
  exact H.out
set_option maxHeartbeats 2000000 in
theorem advise_any {w : World} {ao : Option Addr} {c : Nat} {L : List AAr} (hs : Sn rAAr w ao L) (hm : L.length ≤ maxLen) (a b : Int) (x : Bool) :
    Calls Try.prog 52 #[.slice ao L.length c, .int .i64 a, .int .i64 b, .bool x] w (EachW w L a b (fun p => (p.1, p.2.1, x))) := by
  have hb0 := new_below w (.cells #[.bool x] 4)
  have hE := each_any (c := c) (hs.below hb0) hm a b 67 _ (fun p => (p.1, p.2.1, x)) (advise1_turns (w.alloc (.cells #[.bool x] 4)) w.heap.size x (Laid.new _ _ _))
  have HB0 : Hid (Below w.heap.size w (w.alloc (.cells #[.bool x] 4))) := hb0
  clear hs hb0
  go_enter Try.func52, Try.ntmps52
  go_wp2_with fail
  refine hE.mono ?_
  rintro e w1 h
  have h' : EachW w L a b (fun p => (p.1, p.2.1, x)) e w1 := h.more HB0.out
  clear hE h
  obtain ⟨v, u, rfl⟩ := h'.pair
  have H : Hid (EachW w L a b (fun p => (p.1, p.2.1, x)) (.returned (.tuple #[v, u])) w1) := h'
  clear h'
  go_wp2
  go_ret2
  exact H.out
end Go.Proofs.Ytoimmapdkapheaa
/- The document's May. -/
namespace Go.Proofs.Ytoimmapdkapheaa
set_option maxRecDepth 4000
open Go.RowKit

end Go.Proofs.Ytoimmapdkapheaa
/- Errors' codes, lists that are the same, rows by their places, the document's Room. -/
namespace Go.Proofs.Ytoimmapdkapheaa
set_option maxRecDepth 4000
open Go.RowKit

def ofF {α : Type} (n : Nat) (f : Nat → α) : List α := (List.range n).map f
theorem ofF_len {α : Type} (n : Nat) (f : Nat → α) : (ofF n f).length = n := by simp [ofF]
theorem ofF_get {α : Type} (n : Nat) (f : Nat → α) (z : α) {x : Nat} (h : x < n) : (ofF n f).getD x z = f x := by
  rw [List.getD_eq_getElem?_getD]
  unfold ofF
  rw [List.getElem?_map, List.getElem?_range h]
  rfl
theorem ofF_set {α : Type} (n : Nat) (f : Nat → α) (i : Nat) (a : α) : (ofF n f).set i a = ofF n (fun x => if x = i then a else f x) := by
  apply List.ext_getElem?
  intro x
  unfold ofF
  by_cases hx : x < n
  · by_cases hxi : i = x
    · subst hxi
      rw [List.getElem?_set_self (by simpa using hx), List.getElem?_map, List.getElem?_range hx, Option.map_some, if_pos rfl]
    · rw [List.getElem?_set_ne hxi, List.getElem?_map, List.getElem?_map, List.getElem?_range hx, Option.map_some, Option.map_some, if_neg (Ne.symm hxi)]
  · rw [List.getElem?_eq_none (by simp; omega), List.getElem?_eq_none (by simp; omega)]
theorem ofF_congr {α : Type} {n : Nat} {f g : Nat → α} (h : ∀ x, x < n → f x = g x) : ofF n f = ofF n g := by
  unfold ofF
  apply List.map_congr_left
  intro x hx
  exact h x (by simpa using hx)

/-- '==' between two errors that are Codes. -/
theorem eq_code (a b : Int) (w : World) : (binOp .eql 41 (.iface 48 (.int .i64 a)) (.iface 48 (.int .i64 b))).run Try.prog w = .ok (.bool (a == b)) w :=
  Lib.run_eql_iface_int (P := Try.prog) w (t := 41) (tx := 48) (k := .i64) a b Try.underlying41 (by kernel_rfl) Try.underlying48

set_option maxHeartbeats 400000 in
theorem code_nil (w : World) : Calls Try.prog 23 #[.nilIface] w fun e w' => e = .returned (.int .i64 0) ∧ w' = w := by
  go_enter Try.func23, Try.ntmps23
  go_wp2
  go_ret
  exact ⟨rfl, rfl⟩

set_option maxHeartbeats 400000 in
theorem code_any (c : Nat) (w : World) (h1 : 1 ≤ c) (h8 : c ≤ 8) : Calls Try.prog 23 #[.iface 48 (.int .i64 c)] w fun e w' => e = .returned (.int .i64 c) ∧ w' = w := by
  have hq := fun k : Nat => eq_code c k
  go_enter Try.func23, Try.ntmps23
  go_wp2
  go_loop [3] (fun i => ∃ k : Nat, 1 ≤ k ∧ k ≤ c ∧ i = .int .i64 k) (fun i => 9 - (intOf i).toNat)
  case atStart => exact ⟨1, by omega, by omega, rfl⟩
  case round =>
    obtain ⟨k, k1, k2, rfl⟩ := hrel
    have hk8 : (k : Int) ≤ 8 := by omega
    by_cases e : k = c
    · subst e
      have hqk := hq k
      rw [beq_self_eq_true] at hqk
      clear hq
      go_wp2
      go_ret
      exact ⟨rfl, rfl⟩
    · have hqk := hq k
      rw [show ((c : Int) == (k : Int)) = false by simp; omega] at hqk
      clear hq
      go_wp2
      go_round
      case rel => exact ⟨k + 1, by omega, by omega, by go_num⟩
      case measure => simp [intOf]; omega

set_option maxRecDepth 100000 in
set_option maxHeartbeats 2000000 in
theorem same_self {w : World} {a1 a2 : Option Addr} {c1 c2 : Nat} {L : List AAr} (h1 : Sn rAAr w a1 L) (h2 : Sn rAAr w a2 L) (hm : L.length ≤ maxLen) :
    Calls Try.prog 22 #[.slice a1 L.length c1, .slice a2 L.length c2] w fun e w' => e = .returned (.bool true) ∧ Below w.heap.size w w' := by
  have hm' : L.length ≤ 9223372036854775807 := by unfold maxLen at hm; omega
  have H1 : Hid (Sn rAAr w a1 L) := h1
  have H2 : Hid (Sn rAAr w a2 L) := h2
  clear h1 h2 hm
  go_enter Try.func22, Try.ntmps22
  go_wp2
  go_loopw [5] (fun iv W => ∃ k : Nat, k ≤ L.length ∧ iv = .int .i64 k ∧ Hid (Below w.heap.size w W)) (fun iv _ => L.length - (intOf iv).toNat)
  case atStart => exact ⟨0, Nat.zero_le _, rfl, Below.refl _ _⟩
  case round =>
    obtain ⟨k, hk, rfl, HB⟩ := hrel
    by_cases hlt : k < L.length
    · have hltz : (k : Int) < (L.length : Int) := by omega
      obtain ⟨g, off, rfl, hg, c0, c1, c2, c3, c4⟩ := AAr.sn (H1.out.below HB.out) hlt
      obtain ⟨g', off', rfl, hg', d0, d1, d2, d3, d4⟩ := AAr.sn (H2.out.below HB.out) hlt
      have hne := fun w => neq_ar (L.getD k AAr.zero) (L.getD k AAr.zero) w
      rw [eqA_self] at hne
      generalize L.getD k AAr.zero = d at *
      unfold av at hne
      go_wp2
      go_quiet (fail)
      go_wp2
      go_roundw
      case rel => exact ⟨k + 1, by omega, by go_num, below_drewN HB.out _⟩
      case measure => simp only [intOf]; omega
    · obtain rfl : k = L.length := by omega
      go_wp2
      go_ret
      exact ⟨rfl, HB.out⟩

/-- A page as the document has it. -/
def pgA (t : Option Pg) : APg := match t with
  | none => ⟨false, false, false, false⟩
  | some t => ⟨true, t.1, t.2.1, t.2.2⟩
theorem pgA_inj {s t : Option Pg} (h : pgA s = pgA t) : s = t := by
  cases s <;> cases t
  · rfl
  · simp [pgA] at h
  · simp [pgA] at h
  · next s t =>
    obtain ⟨a, b, c⟩ := s
    obtain ⟨a', b', c'⟩ := t
    simpa [pgA] using h
theorem pgA_is (t : Option Pg) : (pgA t).is = t.isSome := by cases t <;> rfl
theorem ofF_const {α : Type} (n : Nat) (a : α) : ofF n (fun _ => a) = List.replicate n a := by
  apply List.ext_getElem?
  intro x
  unfold ofF
  by_cases hx : x < n
  · rw [List.getElem?_map, List.getElem?_range hx, List.getElem?_replicate, if_pos hx]
    rfl
  · rw [List.getElem?_eq_none (by simp; omega), List.getElem?_eq_none (by simp; omega)]
/-- The pages of f. -/
def pagesA (f : Int → Option Pg) : List APg := ofF 4096 (fun k => pgA (f k))
theorem pages_len (f : Int → Option Pg) : (pagesA f).length = 4096 := ofF_len _ _
theorem pages_get (f : Int → Option Pg) {k : Nat} (h : k < 4096) : (pagesA f).getD k APg.zero = pgA (f k) := ofF_get _ _ _ h
theorem pages_set (f : Int → Option Pg) (i : Nat) (t : Option Pg) : (pagesA f).set i (pgA t) = pagesA (fun p => if p = (i : Int) then t else f p) := by
  unfold pagesA
  rw [ofF_set]
  apply ofF_congr
  intro x _
  show _ = pgA (if (x : Int) = (i : Int) then t else f x)
  by_cases h : x = i
  · rw [if_pos h, if_pos (by omega)]
  · rw [if_neg h, if_neg (by omega)]
theorem pages_congr {f g : Int → Option Pg} (h : ∀ p : Int, 0 ≤ p → p < 4096 → f p = g p) : pagesA f = pagesA g := by
  unfold pagesA
  apply ofF_congr
  intro x hx
  rw [h x (by omega) (by omega)]
/-- The pages' cells, where they are a row. -/
theorem APg.sn {w : World} {ao : Option Addr} {f : Int → Option Pg} (h : Sn rAPg w ao (pagesA f)) {k : Nat} (hk : k < 4096) : ∃ g off, ao = some ⟨g, off, none⟩ ∧ g < w.heap.size ∧ w.cell? ⟨g, off + k * 4, none⟩ = some (.bool (pgA (f k)).is) ∧ w.cell? ⟨g, off + k * 4 + 1, none⟩ = some (.bool (pgA (f k)).w) ∧ w.cell? ⟨g, off + k * 4 + 2, none⟩ = some (.bool (pgA (f k)).x) ∧ w.cell? ⟨g, off + k * 4 + 3, none⟩ = some (.bool (pgA (f k)).h) := by
  obtain ⟨g, off, e, hg, hat⟩ := h.at (show k < _ by rw [pages_len]; exact hk)
  rw [show rAPg.zero = APg.zero from rfl, pages_get f hk] at hat
  exact ⟨g, off, e, hg, APg.at hat⟩

end Go.Proofs.Ytoimmapdkapheaa
/- 'make([]T, n)': a row of zeros. No word of the program. -/
namespace Go.Proofs.Ytoimmapdkapheaa
set_option maxRecDepth 4000
open Go.RowKit

theorem made_at (zc : Array Value) (m j : Nat) (h : j < m) : (madeCells zc m)[j]? = some (zc[j % zc.size]!) := by
  unfold madeCells
  rw [Array.getElem?_map, Array.getElem?_range, if_pos h]
  rfl
section
variable {P : Program} {α : Type} {R : Rec α} {s : TypeId}
theorem run_makeR (k : Kin P R s) (hz : ∀ i z, P.info? R.t = some i → i.zero = some z → z.cells = (R.cells R.zero).toArray) (w : World) (n : Nat) (hm : n ≤ maxLen) (hb : R.bytes * n ≤ 281474976710656) :
    ∃ cs : Array Value, (Instr.makeSlice s (.int .i64 n) (.int .i64 n)).run P w = .ok (.slice (some ⟨w.heap.size, 0, none⟩) n n) (w.alloc (.cells cs R.t)) ∧ Row R w.heap.size (w.alloc (.cells cs R.t)) (.slice (some ⟨w.heap.size, 0, none⟩) n n) (List.replicate n R.zero) := by
  obtain ⟨i, z, hi, hz0, hz1, hz2, hzs⟩ := k.inf
  have hzc := hz i z hi hz0
  have hb' : (i.bytes : Int) * (n : Int) ≤ 281474976710656 := by
    have h : ((i.bytes * n : Nat) : Int) ≤ 281474976710656 := by rw [hz2]; omega
    rwa [Int.natCast_mul] at h
  have hr := run_make (P := P) w s R.t i z k.und hi hz0 .i64 .i64 n n (by omega) (Int.le_refl _) hb' (by unfold maxLen at hm; omega)
  simp only [Int.toNat_natCast] at hr
  refine ⟨_, hr, ?_⟩
  have hlen : (List.replicate n R.zero).length = n := by simp
  have := Row.of_cells (R := R) (B := w.heap.size) (w' := w.alloc (.cells (madeCells z.cells (n * i.size)) R.t)) (g := w.heap.size) (c := n) (l' := List.replicate n R.zero) (Nat.le_refl _) (heap_alloc_new w _) (by rw [hlen]; exact Nat.le_refl _) hm (by rw [size_madeCells, hz1]) (by
    intro q hq j hj
    rw [hlen] at hq
    have hlt : q * R.n + j < n * R.n := by
      have : (q + 1) * R.n ≤ n * R.n := Nat.mul_le_mul_right _ hq
      rw [Nat.add_mul] at this
      omega
    rw [hz1, made_at _ _ _ hlt, hzc]
    have e1 : (q * R.n + j) % (R.cells R.zero).toArray.size = j := by
      rw [List.size_toArray, R.len, Nat.mul_comm, Nat.mul_add_mod, Nat.mod_eq_of_lt hj]
    rw [e1, List.getD_eq_getElem?_getD, List.getElem?_replicate, if_pos hq, Option.getD_some]
    have hjl : j < (R.cells R.zero).length := by rw [R.len]; exact hj
    rw [List.getElem?_eq_getElem hjl]
    simp [hjl])
  rwa [hlen] at this
end
end Go.Proofs.Ytoimmapdkapheaa
/- Worlds of spaces: no word of the program. -/
namespace Go.Proofs.Ytoimmapdkapheaa
set_option maxRecDepth 4000

/-- A space: what each page has, and its words. -/
structure Sp where
  f : Int → Option Pg
  wd : Nat → Nat → Nat
/-- A world of spaces, by their numbers. -/
abbrev Wd := Int → Option Sp
def Wd.set (A : Wd) (n : Int) (s : Option Sp) : Wd := fun k => if k = n then s else A k
theorem Wd.set_at (A : Wd) (n : Int) (s : Option Sp) : A.set n s n = s := if_pos rfl
theorem Wd.set_ne (A : Wd) {n k : Int} (s : Option Sp) (h : k ≠ n) : A.set n s k = A k := if_neg h
def okN (n : Int) : Prop := 1 ≤ n ∧ n ≤ 255
def newS : Sp := ⟨fun _ => none, fun _ _ => 0⟩
/-- Pages from a up to b are 0s. -/
def wdZ (wd : Nat → Nat → Nat) (a b : Int) (k i : Nat) : Nat := if a ≤ (k : Int) ∧ (k : Int) < b then 0 else wd k i
/-- One word is stored. -/
def wdS (wd : Nat → Nat → Nat) (p i v : Nat) (k j : Nat) : Nat := if k = p ∧ j = i then v else wd k j
/-- A space that may be: nothing beyond its pages, not too many areas, words of 64 bits. -/
structure Sp.ok (s : Sp) : Prop where
  out : ∀ p : Int, p < 0 ∨ 4096 ≤ p → s.f p = none
  fit : ∃ M, CanA s.f M ∧ M.length ≤ 64
  wds : ∀ k i, s.wd k i < 18446744073709551616
/-- A world that may be. -/
def Wd.ok (A : Wd) : Prop := ∀ n s, A n = some s → okN n ∧ s.ok
def MakeD (A : Wd) (n : Int) (code : Int) (A' : Wd) : Prop :=
  (¬ okN n ∧ code = 1 ∧ A' = A) ∨ (okN n ∧ A n ≠ none ∧ code = 4 ∧ A' = A) ∨ (okN n ∧ A n = none ∧ code = 0 ∧ A' = A.set n (some newS))
def ForkD (A : Wd) (n c : Int) (code : Int) (A' : Wd) : Prop :=
  (¬ okN c ∧ code = 1 ∧ A' = A) ∨ (okN c ∧ A n = none ∧ code = 3 ∧ A' = A) ∨ (okN c ∧ A n ≠ none ∧ A c ≠ none ∧ code = 4 ∧ A' = A) ∨ (∃ s, okN c ∧ A n = some s ∧ A c = none ∧ code = 0 ∧ A' = A.set c (some s))
def EndD (A : Wd) (n : Int) (code : Int) (A' : Wd) : Prop :=
  (A n = none ∧ code = 3 ∧ A' = A) ∨ (A n ≠ none ∧ code = 0 ∧ A' = A.set n none)
def LayD (A : Wd) (n a b : Int) (t : Option Pg) (code : Int) (A' : Wd) : Prop :=
  (A n = none ∧ code = 3 ∧ A' = A) ∨ (∃ s, A n = some s ∧ ((¬ SpanA a b ∧ code = 1 ∧ A' = A) ∨ (SpanA a b ∧ ∃ M, CanA (layA s.f a b t) M ∧ ((64 < M.length ∧ code = 5 ∧ A' = A) ∨ (M.length ≤ 64 ∧ code = 0 ∧ A' = A.set n (some ⟨layA s.f a b t, wdZ s.wd a b⟩))))))
def ChgD (A : Wd) (n a b : Int) (g : Pg → Pg) (code : Int) (A' : Wd) : Prop :=
  (A n = none ∧ code = 3 ∧ A' = A) ∨ (∃ s, A n = some s ∧ ((¬ SpanA a b ∧ code = 1 ∧ A' = A) ∨ (SpanA a b ∧ (∃ p, a ≤ p ∧ p < b ∧ s.f p = none) ∧ code = 3 ∧ A' = A) ∨ (SpanA a b ∧ (∀ p, a ≤ p → p < b → s.f p ≠ none) ∧ ∃ M, CanA (mapA s.f a b g) M ∧ ((64 < M.length ∧ code = 5 ∧ A' = A) ∨ (M.length ≤ 64 ∧ code = 0 ∧ A' = A.set n (some ⟨mapA s.f a b g, s.wd⟩))))))
/-- A word's place: an error's number, or none. -/
def AtD (A : Wd) (n p i : Int) (code : Int) : Prop :=
  (A n = none ∧ code = 3) ∨ (∃ s, A n = some s ∧ ((¬ (0 ≤ i ∧ i < 8) ∧ code = 1) ∨ (0 ≤ i ∧ i < 8 ∧ s.f p = none ∧ code = 3) ∨ (0 ≤ i ∧ i < 8 ∧ s.f p ≠ none ∧ code = 0)))
theorem make_ex (A : Wd) (n : Int) : ∃ code A', MakeD A n code A' := by
  by_cases h : okN n
  · cases e : A n with
    | none => exact ⟨0, _, Or.inr (Or.inr ⟨h, e, rfl, rfl⟩)⟩
    | some s => exact ⟨4, A, Or.inr (Or.inl ⟨h, by rw [e]; simp, rfl, rfl⟩)⟩
  · exact ⟨1, A, Or.inl ⟨h, rfl, rfl⟩⟩
theorem fork_ex (A : Wd) (n c : Int) : ∃ code A', ForkD A n c code A' := by
  by_cases h : okN c
  · cases e : A n with
    | none => exact ⟨3, A, Or.inr (Or.inl ⟨h, e, rfl, rfl⟩)⟩
    | some s =>
      cases e2 : A c with
      | none => exact ⟨0, _, Or.inr (Or.inr (Or.inr ⟨s, h, e, e2, rfl, rfl⟩))⟩
      | some t => exact ⟨4, A, Or.inr (Or.inr (Or.inl ⟨h, by rw [e]; simp, by rw [e2]; simp, rfl, rfl⟩))⟩
  · exact ⟨1, A, Or.inl ⟨h, rfl, rfl⟩⟩
theorem end_ex (A : Wd) (n : Int) : ∃ code A', EndD A n code A' := by
  cases e : A n with
  | none => exact ⟨3, A, Or.inl ⟨e, rfl, rfl⟩⟩
  | some s => exact ⟨0, _, Or.inr ⟨by rw [e]; simp, rfl, rfl⟩⟩
theorem lay_ex (A : Wd) (n a b : Int) (t : Option Pg) : ∃ code A', LayD A n a b t code A' := by
  cases e : A n with
  | none => exact ⟨3, A, Or.inl ⟨e, rfl, rfl⟩⟩
  | some s =>
    by_cases h : SpanA a b
    · obtain ⟨M, hM⟩ := can_ex (layA s.f a b t)
      by_cases h4 : M.length ≤ 64
      · exact ⟨0, _, Or.inr ⟨s, e, Or.inr ⟨h, M, hM, Or.inr ⟨h4, rfl, rfl⟩⟩⟩⟩
      · exact ⟨5, A, Or.inr ⟨s, e, Or.inr ⟨h, M, hM, Or.inl ⟨by omega, rfl, rfl⟩⟩⟩⟩
    · exact ⟨1, A, Or.inr ⟨s, e, Or.inl ⟨h, rfl, rfl⟩⟩⟩
theorem chg_ex (A : Wd) (n a b : Int) (g : Pg → Pg) : ∃ code A', ChgD A n a b g code A' := by
  cases e : A n with
  | none => exact ⟨3, A, Or.inl ⟨e, rfl, rfl⟩⟩
  | some s =>
    by_cases h : SpanA a b
    · by_cases hg : ∃ p, a ≤ p ∧ p < b ∧ s.f p = none
      · exact ⟨3, A, Or.inr ⟨s, e, Or.inr (Or.inl ⟨h, hg, rfl, rfl⟩)⟩⟩
      · have hg' : ∀ p, a ≤ p → p < b → s.f p ≠ none := fun p h1 h2 h3 => hg ⟨p, h1, h2, h3⟩
        obtain ⟨M, hM⟩ := can_ex (mapA s.f a b g)
        by_cases h4 : M.length ≤ 64
        · exact ⟨0, _, Or.inr ⟨s, e, Or.inr (Or.inr ⟨h, hg', M, hM, Or.inr ⟨h4, rfl, rfl⟩⟩)⟩⟩
        · exact ⟨5, A, Or.inr ⟨s, e, Or.inr (Or.inr ⟨h, hg', M, hM, Or.inl ⟨by omega, rfl, rfl⟩⟩)⟩⟩
    · exact ⟨1, A, Or.inr ⟨s, e, Or.inl ⟨h, rfl, rfl⟩⟩⟩
theorem at_ex (A : Wd) (n p i : Int) : ∃ code, AtD A n p i code := by
  cases e : A n with
  | none => exact ⟨3, Or.inl ⟨e, rfl⟩⟩
  | some s =>
    by_cases h : 0 ≤ i ∧ i < 8
    · cases e2 : s.f p with
      | none => exact ⟨3, Or.inr ⟨s, e, Or.inr (Or.inl ⟨h.1, h.2, e2, rfl⟩)⟩⟩
      | some t => exact ⟨0, Or.inr ⟨s, e, Or.inr (Or.inr ⟨h.1, h.2, by rw [e2]; simp, rfl⟩)⟩⟩
    · exact ⟨1, Or.inr ⟨s, e, Or.inl ⟨h, rfl⟩⟩⟩
theorem emp_ok : Wd.ok (fun _ => none) := fun n s e => by cases e
theorem newS_ok : newS.ok := by
  refine ⟨fun _ _ => rfl, ?_, fun _ _ => by show 0 < _; omega⟩
  obtain ⟨M, hM⟩ := can_ex newS.f
  have := can_none hM fun p _ _ => rfl
  exact ⟨M, hM, by rw [this]; exact Nat.zero_le _⟩
theorem Wd.ok.set {A : Wd} (h : A.ok) {n : Int} {s : Sp} (hn : okN n) (hs : s.ok) : (A.set n (some s)).ok := fun k t e => by
  unfold Wd.set at e
  by_cases c : k = n
  · rw [if_pos c] at e
    cases e
    rw [c]
    exact ⟨hn, hs⟩
  · rw [if_neg c] at e
    exact h k t e
theorem Wd.ok.del {A : Wd} (h : A.ok) (n : Int) : (A.set n none).ok := fun k t e => by
  unfold Wd.set at e
  by_cases c : k = n
  · rw [if_pos c] at e
    cases e
  · rw [if_neg c] at e
    exact h k t e
theorem MakeD.ok {A A' : Wd} {n code : Int} (h : MakeD A n code A') (hA : A.ok) : A'.ok := by
  rcases h with ⟨_, _, rfl⟩ | ⟨_, _, _, rfl⟩ | ⟨h, _, _, rfl⟩
  · exact hA
  · exact hA
  · exact hA.set h newS_ok
theorem ForkD.ok {A A' : Wd} {n c code : Int} (h : ForkD A n c code A') (hA : A.ok) : A'.ok := by
  rcases h with ⟨_, _, rfl⟩ | ⟨_, _, _, rfl⟩ | ⟨_, _, _, _, rfl⟩ | ⟨s, h, e, _, _, rfl⟩
  · exact hA
  · exact hA
  · exact hA
  · exact hA.set h (hA _ _ e).2
theorem EndD.ok {A A' : Wd} {n code : Int} (h : EndD A n code A') (hA : A.ok) : A'.ok := by
  rcases h with ⟨_, _, rfl⟩ | ⟨_, _, rfl⟩
  · exact hA
  · exact hA.del n
theorem layS_ok {s : Sp} {a b : Int} {t : Option Pg} {M : List AAr} (hs : s.ok) (h : SpanA a b) (hM : CanA (layA s.f a b t) M) (h4 : M.length ≤ 64) : Sp.ok ⟨layA s.f a b t, wdZ s.wd a b⟩ :=
  ⟨fun p hp => by
    show layA s.f a b t p = none
    unfold layA
    rw [if_neg (by have := h.1; have := h.2.2; omega)]
    exact hs.out p hp, ⟨M, hM, h4⟩, fun k i => by
    show wdZ s.wd a b k i < _
    unfold wdZ
    by_cases c : a ≤ (k : Int) ∧ (k : Int) < b
    · rw [if_pos c]; omega
    · rw [if_neg c]; exact hs.wds k i⟩
theorem mapS_ok {s : Sp} {a b : Int} {g : Pg → Pg} {M : List AAr} (hs : s.ok) (hM : CanA (mapA s.f a b g) M) (h4 : M.length ≤ 64) : Sp.ok ⟨mapA s.f a b g, s.wd⟩ :=
  ⟨fun p hp => by
    show mapA s.f a b g p = none
    unfold mapA
    rw [hs.out p hp]
    by_cases c : a ≤ p ∧ p < b
    · rw [if_pos c]; rfl
    · rw [if_neg c], ⟨M, hM, h4⟩, hs.wds⟩
theorem LayD.ok {A A' : Wd} {n a b code : Int} {t : Option Pg} (h : LayD A n a b t code A') (hA : A.ok) : A'.ok := by
  rcases h with ⟨_, _, rfl⟩ | ⟨s, e, ⟨_, _, rfl⟩ | ⟨hS, M, hM, ⟨_, _, rfl⟩ | ⟨h4, _, rfl⟩⟩⟩
  · exact hA
  · exact hA
  · exact hA
  · exact hA.set (hA _ _ e).1 (layS_ok (hA _ _ e).2 hS hM h4)
theorem ChgD.ok {A A' : Wd} {n a b code : Int} {g : Pg → Pg} (h : ChgD A n a b g code A') (hA : A.ok) : A'.ok := by
  rcases h with ⟨_, _, rfl⟩ | ⟨s, e, ⟨_, _, rfl⟩ | ⟨_, _, _, rfl⟩ | ⟨_, _, M, hM, ⟨_, _, rfl⟩ | ⟨h4, _, rfl⟩⟩⟩
  · exact hA
  · exact hA
  · exact hA
  · exact hA
  · exact hA.set (hA _ _ e).1 (mapS_ok (hA _ _ e).2 hM h4)
theorem store_ok {s : Sp} (hs : s.ok) (p i : Nat) {v : Nat} (hv : v < 18446744073709551616) : Sp.ok ⟨s.f, wdS s.wd p i v⟩ :=
  ⟨hs.out, hs.fit, fun k j => by
    show wdS s.wd p i v k j < _
    unfold wdS
    by_cases c : k = p ∧ j = i
    · rw [if_pos c]; exact hv
    · rw [if_neg c]; exact hs.wds k j⟩
end Go.Proofs.Ytoimmapdkapheaa
/- Rows of spaces, as the document has them, and of pages' words. -/
namespace Go.Proofs.Ytoimmapdkapheaa
set_option maxRecDepth 4000
open Go.RowKit

/-- A space of the document's, as it lies: its number, where its pages and its words are. -/
structure SpV where
  n : Int
  gp : Nat
  cp : Nat
  gw : Nat
  cw : Nat
def SpV.zero : SpV := ⟨0, 0, 0, 0, 0⟩
def SpV.vp (d : SpV) : Value := .slice (some ⟨d.gp, 0, none⟩) 4096 d.cp
def SpV.vw (d : SpV) : Value := .slice (some ⟨d.gw, 0, none⟩) 4096 d.cw
def SpV.cells (d : SpV) : List Value := [.int .i64 d.n, d.vp, d.vw]
theorem SpV.len (d : SpV) : d.cells.length = 3 := rfl
theorem SpV.one (d : SpV) : ∀ u ∈ d.cells, u.oneCell' = true := by
  intro u hu
  simp only [SpV.cells, SpV.vp, SpV.vw, List.mem_cons, List.not_mem_nil, or_false] at hu
  rcases hu with rfl | rfl | rfl <;> rfl
def rSp : Rec SpV := ⟨59, 3, 56, SpV.zero, SpV.cells, SpV.len, by decide, SpV.one⟩
theorem rSp.kin : Kin Try.prog rSp 27 := Kin.of (z := .agg #[.int .i64 0, .slice none 0 0, .slice none 0 0]) Try.underlying27 (by kernel_rfl) rfl
theorem rSp.at {w : World} {b o : Nat} {d : SpV} (h : At rSp w b o d) : w.cell? ⟨b, o, none⟩ = some (.int .i64 d.n) ∧ w.cell? ⟨b, o + 1, none⟩ = some d.vp ∧ w.cell? ⟨b, o + 2, none⟩ = some d.vw :=
  ⟨h 0 (by decide), h 1 (by decide), h 2 (by decide)⟩
/-- A page's words. -/
def w8cells (x : Nat → Nat) : List Value := [.int .u64 (x 0), .int .u64 (x 1), .int .u64 (x 2), .int .u64 (x 3), .int .u64 (x 4), .int .u64 (x 5), .int .u64 (x 6), .int .u64 (x 7)]
theorem w8len (x : Nat → Nat) : (w8cells x).length = 8 := rfl
theorem w8one (x : Nat → Nat) : ∀ u ∈ w8cells x, u.oneCell' = true := by
  intro u hu
  simp only [w8cells, List.mem_cons, List.not_mem_nil, or_false] at hu
  rcases hu with rfl | rfl | rfl | rfl | rfl | rfl | rfl | rfl <;> rfl
def rW8 : Rec (Nat → Nat) := ⟨77, 8, 64, fun _ => 0, w8cells, w8len, by decide, w8one⟩
theorem rW8.kin : Kin Try.prog rW8 57 := Kin.of (z := .agg #[.int .u64 0, .int .u64 0, .int .u64 0, .int .u64 0, .int .u64 0, .int .u64 0, .int .u64 0, .int .u64 0]) Try.underlying57 (by kernel_rfl) rfl
theorem rW8.zone : ∀ i z, Try.prog.info? rW8.t = some i → i.zero = some z → z.cells = (rW8.cells rW8.zero).toArray := by
  intro i z hi hz
  have h : (Try.prog.info? 77).map (fun i => i.zero) = some (some (.agg #[.int .u64 0, .int .u64 0, .int .u64 0, .int .u64 0, .int .u64 0, .int .u64 0, .int .u64 0, .int .u64 0])) := by kernel_rfl
  rw [show Try.prog.info? 77 = some i from hi, Option.map_some, hz] at h
  simp at h
  subst h
  rfl
theorem w8get (x : Nat → Nat) {j : Nat} (hj : j < 8) : (w8cells x)[j]? = some (.int .u64 (x j)) := by
  match j, hj with
  | 0, _ => rfl
  | 1, _ => rfl
  | 2, _ => rfl
  | 3, _ => rfl
  | 4, _ => rfl
  | 5, _ => rfl
  | 6, _ => rfl
  | 7, _ => rfl
theorem rW8.at {w : World} {b o : Nat} {x : Nat → Nat} (h : At rW8 w b o x) {j : Nat} (hj : j < 8) : w.cell? ⟨b, o + j, none⟩ = some (.int .u64 (x j)) := (h j hj).trans (w8get x hj)
theorem w8set (x : Nat → Nat) {i : Nat} (hi : i < 8) (v : Nat) : w8cells (fun j => if j = i then v else x j) = (w8cells x).set i (.int .u64 v) := by
  match i, hi with
  | 0, _ => rfl
  | 1, _ => rfl
  | 2, _ => rfl
  | 3, _ => rfl
  | 4, _ => rfl
  | 5, _ => rfl
  | 6, _ => rfl
  | 7, _ => rfl
def wordsA (wd : Nat → Nat → Nat) : List (Nat → Nat) := ofF 4096 wd
theorem words_len (wd : Nat → Nat → Nat) : (wordsA wd).length = 4096 := ofF_len _ _
theorem words_get (wd : Nat → Nat → Nat) {k : Nat} (h : k < 4096) : (wordsA wd).getD k (fun _ => 0) = wd k := ofF_get _ _ _ h
theorem words_set (wd : Nat → Nat → Nat) (k : Nat) (x : Nat → Nat) : (wordsA wd).set k x = wordsA (fun j => if j = k then x else wd j) := ofF_set _ _ _ _
theorem words_zero : wordsA (fun _ _ => 0) = List.replicate 4096 (fun _ => 0) := ofF_const 4096 _
theorem words_congr {a b : Nat → Nat → Nat} (h : ∀ k, k < 4096 → a k = b k) : wordsA a = wordsA b := ofF_congr h
/-- Spaces side by side, by their numbers. -/
abbrev Sps := List (SpV × Sp)
def lkT : Sps → Wd
  | [], _ => none
  | x :: T, k => if x.1.n = k then some x.2 else lkT T k
def zT : SpV × Sp := (SpV.zero, newS)
def nodT (T : Sps) : Prop := ∀ i j, i < T.length → j < T.length → (T.getD i zT).1.n = (T.getD j zT).1.n → i = j
theorem lk_none : ∀ (T : Sps) (k : Int), lkT T k = none ↔ ∀ i, i < T.length → (T.getD i zT).1.n ≠ k
  | [], k => by simp [lkT]
  | x :: T, k => by
    rw [lkT]
    by_cases c : x.1.n = k
    · rw [if_pos c]
      refine ⟨fun h => (Option.some_ne_none _ h).elim, fun h => absurd c ?_⟩
      have := h 0 (by simp)
      simpa using this
    · rw [if_neg c, lk_none T k]
      constructor
      · intro h i hi
        cases i with
        | zero => simpa using c
        | succ i => have := h i (by simpa using hi); simpa using this
      · intro h i hi
        have := h (i + 1) (by simpa using hi)
        simpa using this
theorem lk_at : ∀ (T : Sps), nodT T → ∀ i, i < T.length → lkT T (T.getD i zT).1.n = some (T.getD i zT).2
  | [], _, i, hi => by simp at hi
  | x :: T, h, i, hi => by
    rw [lkT]
    cases i with
    | zero => simp
    | succ i =>
      have hi' : i < T.length := by simpa using hi
      have hne : x.1.n ≠ (T.getD i zT).1.n := fun e => by
        have := h 0 (i + 1) (by simp) hi (by simpa using e)
        omega
      rw [show (x :: T).getD (i + 1) zT = T.getD i zT by simp, if_neg hne]
      exact lk_at T (fun a b ha hb e => by have := h (a + 1) (b + 1) (by simpa using ha) (by simpa using hb) (by simpa using e); omega) i hi'
theorem lk_app : ∀ (T : Sps) (x : SpV × Sp), lkT T x.1.n = none → lkT (T ++ [x]) = (lkT T).set x.1.n (some x.2)
  | [], x, _ => by
    funext k
    show (if x.1.n = k then some x.2 else none) = if k = x.1.n then some x.2 else none
    by_cases c : x.1.n = k
    · rw [if_pos c, if_pos c.symm]
    · rw [if_neg c, if_neg (Ne.symm c)]
  | y :: T, x, h => by
    rw [lkT] at h
    have hc : y.1.n ≠ x.1.n := fun c => by rw [if_pos c] at h; cases h
    rw [if_neg hc] at h
    funext k
    show (if y.1.n = k then some y.2 else lkT (T ++ [x]) k) = if k = x.1.n then some x.2 else if y.1.n = k then some y.2 else lkT T k
    rw [lk_app T x h]
    show (if y.1.n = k then some y.2 else if k = x.1.n then some x.2 else lkT T k) = _
    by_cases c : y.1.n = k
    · rw [if_pos c, if_neg (fun e => hc (c.trans e)), if_pos c]
    · rw [if_neg c, if_neg c]
theorem lk_del : ∀ (T : Sps), nodT T → ∀ i, i < T.length → lkT (T.take i ++ T.drop (i + 1)) = (lkT T).set (T.getD i zT).1.n none
  | [], _, i, hi => by simp at hi
  | x :: T, h, i, hi => by
    cases i with
    | zero =>
      funext k
      show lkT T k = if k = x.1.n then none else if x.1.n = k then some x.2 else lkT T k
      by_cases c : k = x.1.n
      · rw [if_pos c, lk_none]
        intro j hj e
        have := h 0 (j + 1) (by simp) (by simpa using hj) (by simpa using (e.trans c).symm)
        omega
      · rw [if_neg c, if_neg (Ne.symm c)]
    | succ i =>
      have hi' : i < T.length := by simpa using hi
      have hT : nodT T := fun a b ha hb e => by have := h (a + 1) (b + 1) (by simpa using ha) (by simpa using hb) (by simpa using e); omega
      have hne : x.1.n ≠ (T.getD i zT).1.n := fun e => by
        have := h 0 (i + 1) (by simp) hi (by simpa using e)
        omega
      funext k
      show (if x.1.n = k then some x.2 else lkT (T.take i ++ T.drop (i + 1)) k) = if k = (T.getD i zT).1.n then none else if x.1.n = k then some x.2 else lkT T k
      rw [lk_del T hT i hi']
      show (if x.1.n = k then some x.2 else if k = (T.getD i zT).1.n then none else lkT T k) = _
      by_cases c : x.1.n = k
      · rw [if_pos c, if_neg (fun e => hne (c.trans e)), if_pos c]
      · rw [if_neg c, if_neg c]
theorem lk_set : ∀ (T : Sps), nodT T → ∀ i, i < T.length → ∀ x : SpV × Sp, x.1.n = (T.getD i zT).1.n → lkT (T.set i x) = (lkT T).set x.1.n (some x.2)
  | [], _, i, hi, _, _ => by simp at hi
  | y :: T, h, i, hi, x, hx => by
    cases i with
    | zero =>
      have hx' : x.1.n = y.1.n := by simpa using hx
      funext k
      show (if x.1.n = k then some x.2 else lkT T k) = if k = x.1.n then some x.2 else if y.1.n = k then some y.2 else lkT T k
      by_cases c : x.1.n = k
      · rw [if_pos c, if_pos c.symm]
      · rw [if_neg c, if_neg (Ne.symm c), if_neg (fun e => c (hx'.trans e))]
    | succ i =>
      have hi' : i < T.length := by simpa using hi
      have hT : nodT T := fun a b ha hb e => by have := h (a + 1) (b + 1) (by simpa using ha) (by simpa using hb) (by simpa using e); omega
      have hx' : x.1.n = (T.getD i zT).1.n := by simpa using hx
      have hne : y.1.n ≠ (T.getD i zT).1.n := fun e => by
        have := h 0 (i + 1) (by simp) hi (by simpa using e)
        omega
      funext k
      show (if y.1.n = k then some y.2 else lkT (T.set i x) k) = if k = x.1.n then some x.2 else if y.1.n = k then some y.2 else lkT T k
      rw [lk_set T hT i hi' x hx']
      show (if y.1.n = k then some y.2 else if k = x.1.n then some x.2 else lkT T k) = _
      by_cases c : y.1.n = k
      · rw [if_pos c, if_neg (fun e => hne (by rw [c, e, hx'])), if_pos c]
      · rw [if_neg c, if_neg c]
end Go.Proofs.Ytoimmapdkapheaa
/- Maps that the call itself makes: the entries as a list, whatever the keys and the elements; ranging over one. No word of the program. -/
namespace Go.Proofs.Ytoimmapdkapheaa
set_option maxRecDepth 4000
open Go.RowKit Go.ChangeMaps Go.MapKept

theorem pw_mono {α : Type} {R S : α → α → Prop} (h : ∀ a b, R a b → S a b) : ∀ {l : List α}, l.Pairwise R → l.Pairwise S
  | [], _ => List.Pairwise.nil
  | a :: r, hp => by
    obtain ⟨h1, h2⟩ := List.pairwise_cons.1 hp
    exact List.pairwise_cons.2 ⟨fun b hb => h a b (h1 b hb), pw_mono h h2⟩
/-- How the keys and the elements of a map lie. -/
structure Mk (P : Program) (α β : Type) where
  t : TypeId
  k : TypeId
  e : TypeId
  key : α → Value
  val : β → Value
  ok : α → Prop
  law : Maps.Keyed P k
  ht : P.underlying t = some (.map k e)
  inj : ∀ {a b : α}, key a = key b → a = b
  reads : ∀ {a : α}, ok a → ∃ l, keyOf P k (key a) = some l

section
variable {α β : Type}
/-- What stands at a key. -/
def getL [DecidableEq α] (l : List (α × β)) (a : α) : Option β := (l.find? fun p => decide (p.1 = a)).map (·.2)
def putL [DecidableEq α] (l : List (α × β)) (a : α) (x : β) : List (α × β) := if l.any (fun p => decide (p.1 = a)) then l.map (fun p => if p.1 = a then (a, x) else p) else l ++ [(a, x)]
def delL [DecidableEq α] (l : List (α × β)) (a : α) : List (α × β) := l.filter fun p => !decide (p.1 = a)

theorem getL_none [DecidableEq α] {l : List (α × β)} {a : α} (h : ∀ p ∈ l, p.1 ≠ a) : getL l a = none := by
  unfold getL
  rw [List.find?_eq_none.2 (fun p hp => by simpa using h p hp)]
  rfl
theorem getL_at [DecidableEq α] : ∀ {l : List (α × β)} {j : Nat} {p : α × β}, l.Pairwise (fun p q => p.1 ≠ q.1) → l[j]? = some p → getL l p.1 = some p.2
  | [], j, p, _, h => by simp at h
  | q :: r, 0, p, _, h => by
    simp at h
    subst h
    simp [getL]
  | q :: r, j + 1, p, hd, h => by
    obtain ⟨h1, h2⟩ := List.pairwise_cons.1 hd
    simp at h
    have hne : q.1 ≠ p.1 := h1 p (List.mem_of_getElem? h)
    have ih := getL_at h2 h
    unfold getL at ih ⊢
    rw [List.find?_cons_of_neg (by simpa using hne)]
    exact ih
theorem putL_new [DecidableEq α] {l : List (α × β)} {a : α} (h : ∀ p ∈ l, p.1 ≠ a) (x : β) : putL l a x = l ++ [(a, x)] := by
  unfold putL
  rw [if_neg]
  simp only [List.any_eq_true, decide_eq_true_eq, not_exists, not_and]
  exact h
theorem map_at [DecidableEq α] : ∀ {l : List (α × β)} {j : Nat} {p : α × β} (x : β), l.Pairwise (fun p q => p.1 ≠ q.1) → l[j]? = some p → l.map (fun q => if q.1 = p.1 then (p.1, x) else q) = l.set j (p.1, x)
  | [], j, p, _, _, h => by simp at h
  | q :: r, 0, p, x, hd, h => by
    simp at h
    subst h
    obtain ⟨h1, h2⟩ := List.pairwise_cons.1 hd
    simp only [List.map_cons, if_true, List.set_cons_zero, List.cons.injEq, true_and]
    conv => rhs; rw [← List.map_id r]
    refine List.map_congr_left fun y hy => ?_
    rw [if_neg (h1 y hy).symm]
    rfl
  | q :: r, j + 1, p, x, hd, h => by
    obtain ⟨h1, h2⟩ := List.pairwise_cons.1 hd
    simp at h
    have hne : q.1 ≠ p.1 := h1 p (List.mem_of_getElem? h)
    simp only [List.map_cons, if_neg hne, List.set_cons_succ, map_at x h2 h]
theorem putL_at [DecidableEq α] {l : List (α × β)} {j : Nat} {p : α × β} (hd : l.Pairwise (fun p q => p.1 ≠ q.1)) (h : l[j]? = some p) (x : β) : putL l p.1 x = l.set j (p.1, x) := by
  unfold putL
  rw [if_pos (by simp only [List.any_eq_true, decide_eq_true_eq]; exact ⟨p, List.mem_of_getElem? h, rfl⟩)]
  exact map_at x hd h
theorem delL_none [DecidableEq α] {l : List (α × β)} {a : α} (h : ∀ p ∈ l, p.1 ≠ a) : delL l a = l := by
  unfold delL
  rw [List.filter_eq_self]
  intro p hp
  simpa using h p hp
theorem delL_at [DecidableEq α] {l : List (α × β)} {j : Nat} {p : α × β} (hd : l.Pairwise (fun p q => p.1 ≠ q.1)) (h : l[j]? = some p) : delL l p.1 = l.eraseIdx j := by
  unfold delL
  exact filter_eq_eraseIdx (fun q : α × β => decide (q.1 = p.1)) l j p h (by simp) (pw_mono (fun _ _ hne ⟨h1, h2⟩ => hne ((of_decide_eq_true h1).trans (of_decide_eq_true h2).symm)) hd)

variable {P : Program} {M : Mk P α β} {w w' : World} {b r : Nat} {l : List (α × β)}

/-- The entries of es are those of l, one by one. -/
def Ents (M : Mk P α β) (es : Array MapEntry) (l : List (α × β)) : Prop := es.toList.map (fun e => (e.key, e.val)) = l.map fun p => (M.key p.1, M.val p.2)
/-- Block b is a map of these entries. -/
def Mp (M : Mk P α β) (w : World) (b : Nat) (l : List (α × β)) : Prop :=
  ∃ es clock, w.heap[b]? = some (.map es clock) ∧ Stamped es clock ∧ Ents M es l ∧ ∀ p ∈ l, M.ok p.1

theorem Ents.at {es : Array MapEntry} (h : Ents M es l) (j : Nat) : (es.toList[j]?).map (fun e => (e.key, e.val)) = (l[j]?).map fun p => (M.key p.1, M.val p.2) := by
  rw [← List.getElem?_map, ← List.getElem?_map, h]
theorem Ents.mem {es : Array MapEntry} (h : Ents M es l) {x : MapEntry} (hx : x ∈ es.toList) : ∃ p ∈ l, x.key = M.key p.1 ∧ x.val = M.val p.2 := by
  have : (x.key, x.val) ∈ es.toList.map (fun e => (e.key, e.val)) := List.mem_map.2 ⟨x, hx, rfl⟩
  rw [h] at this
  obtain ⟨p, hp, e⟩ := List.mem_map.1 this
  exact ⟨p, hp, (congrArg Prod.fst e).symm, (congrArg Prod.snd e).symm⟩
theorem Ents.mem' {es : Array MapEntry} (h : Ents M es l) {p : α × β} (hp : p ∈ l) : ∃ x ∈ es.toList, x.key = M.key p.1 ∧ x.val = M.val p.2 := by
  have : (M.key p.1, M.val p.2) ∈ l.map fun p => (M.key p.1, M.val p.2) := List.mem_map.2 ⟨p, hp, rfl⟩
  rw [← h] at this
  obtain ⟨x, hx, e⟩ := List.mem_map.1 this
  exact ⟨x, hx, congrArg Prod.fst e, congrArg Prod.snd e⟩
theorem Ents.apart {es : Array MapEntry} {clock : Nat} (h : Ents M es l) (hs : Stamped es clock) : l.Pairwise fun p q => p.1 ≠ q.1 := by
  have h1 : (es.toList.map (·.key)).Nodup := hs.2.2
  have h2 : es.toList.map (·.key) = l.map fun p => M.key p.1 := by
    have := congrArg (List.map Prod.fst) h
    simpa [List.map_map, Function.comp_def] using this
  rw [h2, List.Nodup, List.pairwise_map] at h1
  exact pw_mono (fun _ _ hne e => hne (by rw [e])) h1
theorem Ents.len {es : Array MapEntry} (h : Ents M es l) : es.size = l.length := by
  have := congrArg List.length h
  simpa using this

theorem Mp.lt (h : Mp M w b l) : b < w.heap.size := by
  obtain ⟨es, clock, hb, _⟩ := h
  exact (Array.getElem?_eq_some_iff.1 hb).1
theorem Mp.same (h : Mp M w b l) (e : w'.heap[b]? = w.heap[b]?) : Mp M w' b l := by
  obtain ⟨es, clock, hb, r⟩ := h
  exact ⟨es, clock, e.trans hb, r⟩
theorem Mp.apart (h : Mp M w b l) : l.Pairwise fun p q => p.1 ≠ q.1 := by
  obtain ⟨es, clock, hb, hs, he, _⟩ := h
  exact he.apart hs
theorem Mp.made (M : Mk P α β) (w : World) : Mp M (w.alloc (.map #[] 0)) w.heap.size [] :=
  ⟨#[], 0, (MapKept.heap_alloc w _).1, stamped_empty 0, rfl, by simp⟩
theorem Mp.ne {c : Array Value} {t : TypeId} {fr : Nat × Nat} {g : Nat} (h : Mp M w b l) (hg : w.heap[g]? = some (.cells c t fr)) : b ≠ g := by
  obtain ⟨es, clock, hb, _⟩ := h
  intro e
  rw [e, hg] at hb
  cases hb

theorem find_ents {es : Array MapEntry} (he : Ents M es l) (hok : ∀ p ∈ l, M.ok p.1) {a : α} (ha : M.ok a) (w : World) :
    ((Instr.findKey M.k (M.key a) es.toList).run P w = .ok none w ∧ (∀ p ∈ l, p.1 ≠ a) ∧ ∀ x ∈ es.toList, x.key ≠ M.key a) ∨
    ∃ j e p, (Instr.findKey M.k (M.key a) es.toList).run P w = .ok (some (j, M.val p.2)) w ∧ es.toList[j]? = some e ∧ e.key = M.key a ∧ l[j]? = some p ∧ p.1 = a := by
  obtain ⟨lx, hlx⟩ := M.reads ha
  rcases M.law.find w hlx es.toList (fun e hm => by
    obtain ⟨p, hp, e1, _⟩ := he.mem hm
    rw [e1]
    exact M.reads (hok p hp)) with ⟨h1, h2⟩ | ⟨j, e, h1, h2, h3⟩
  · refine Or.inl ⟨h1, fun p hp e => ?_, h2⟩
    obtain ⟨x, hx, e1, _⟩ := he.mem' hp
    exact h2 x hx (by rw [e1, e])
  · have h4 := he.at j
    rw [h2] at h4
    cases hl : l[j]? with
    | none => rw [hl] at h4; simp at h4
    | some p =>
      rw [hl] at h4
      simp at h4
      have hpa : p.1 = a := M.inj (by rw [← h4.1, h3])
      exact Or.inr ⟨j, e, p, by rw [← h4.2]; exact h1, h2, h3, hl, hpa⟩

/-- 'v, ok := m[k]'. -/
theorem Mp.look [DecidableEq α] (h : Mp M w b l) {a : α} (ha : M.ok a) {z : Value} (hz : (zeroValue M.e).run P w = .ok z w) :
    (Instr.lookup M.t (.map (some b)) (M.key a) true).run P w = .ok (match getL l a with | some x => .tuple #[M.val x, .bool true] | none => .tuple #[z, .bool false]) w := by
  obtain ⟨es, clock, hb, hs, he, hok⟩ := h
  obtain ⟨lx, hlx⟩ := M.reads ha
  rcases find_ents he hok ha w with ⟨h1, h2, _⟩ | ⟨j, e, p, h1, h2, h3, h4, rfl⟩
  · rw [getL_none h2]
    simp [Instr.lookup, run_underlying M.ht, MapKept.run_getObj_map hb, M.law.check w _ hlx, h1, hz, Result.andThen]
  · rw [getL_at (he.apart hs) h4]
    simp [Instr.lookup, run_underlying M.ht, MapKept.run_getObj_map hb, M.law.check w _ hlx, h1, Result.andThen]

/-- 'm[k]', the zero value where nothing is. -/
theorem Mp.get [DecidableEq α] (h : Mp M w b l) {a : α} (ha : M.ok a) {z : Value} (hz : (zeroValue M.e).run P w = .ok z w) :
    (Instr.lookup M.t (.map (some b)) (M.key a) false).run P w = .ok (match getL l a with | some x => M.val x | none => z) w := by
  obtain ⟨es, clock, hb, hs, he, hok⟩ := h
  obtain ⟨lx, hlx⟩ := M.reads ha
  rcases find_ents he hok ha w with ⟨h1, h2, _⟩ | ⟨j, e, p, h1, h2, h3, h4, rfl⟩
  · rw [getL_none h2]
    simp [Instr.lookup, run_underlying M.ht, MapKept.run_getObj_map hb, M.law.check w _ hlx, h1, hz, Result.andThen]
  · rw [getL_at (he.apart hs) h4]
    simp [Instr.lookup, run_underlying M.ht, MapKept.run_getObj_map hb, M.law.check w _ hlx, h1, Result.andThen]
/-- Entries that look alike. -/
theorem Mp.turn {l' : List (α × β)} (h : Mp M w b l) (e : l.map (fun q => (M.key q.1, M.val q.2)) = l'.map fun q => (M.key q.1, M.val q.2)) : Mp M w b l' := by
  obtain ⟨es, clock, hb, hs, he, hok⟩ := h
  refine ⟨es, clock, hb, hs, Eq.trans he e, fun p hp => ?_⟩
  have : (M.key p.1, M.val p.2) ∈ l'.map fun q => (M.key q.1, M.val q.2) := List.mem_map.2 ⟨p, hp, rfl⟩
  rw [← e] at this
  obtain ⟨q, hq, e1⟩ := List.mem_map.1 this
  rw [← M.inj (congrArg Prod.fst e1)]
  exact hok q hq
theorem Mp.oks (h : Mp M w b l) : ∀ p ∈ l, M.ok p.1 := by
  obtain ⟨es, clock, hb, hs, he, hok⟩ := h
  exact hok
/-- The same entries in a new block. -/
theorem Mp.copy (h : Mp M w b l) : ∃ es clock, w.heap[b]? = some (.map es clock) ∧ Mp M (w.alloc (.map es clock)) w.heap.size l := by
  obtain ⟨es, clock, hb, hs, he, hok⟩ := h
  exact ⟨es, clock, hb, es, clock, (MapKept.heap_alloc w _).1, hs, he, hok⟩

/-- 'm[k] = v'. -/
theorem Mp.store [DecidableEq α] (h : Mp M w b l) {a : α} (ha : M.ok a) (x : β) :
    ∃ w', (Instr.mapUpdate M.t (.map (some b)) (M.key a) (M.val x)).run P w = .ok () w' ∧ Mp M w' b (putL l a x) ∧ w.mapTurned w' b := by
  obtain ⟨es, clock, hb, hs, he, hok⟩ := h
  obtain ⟨lx, hlx⟩ := M.reads ha
  rcases find_ents he hok ha w with ⟨h1, h2, h3⟩ | ⟨j, e, p, h1, h2, h3, h4, rfl⟩
  · refine ⟨setBlock w b (.map (es.push ⟨M.key a, M.val x, clock⟩) (clock + 1)), ?_, ⟨_, _, heap_setBlock_same hb _, stamped_push hs h3, ?_, ?_⟩, ⟨es, clock, _, _, hb, rfl⟩⟩
    · simp [Instr.mapUpdate, run_underlying M.ht, MapKept.run_getObj_map hb, M.law.check w false hlx, h1, MapKept.run_setObj_map _ hb, Result.andThen, setBlock]
    · rw [putL_new h2]
      unfold Ents at he ⊢
      simp [he]
    · rw [putL_new h2]
      intro p hp
      rcases List.mem_append.1 hp with hp | hp
      · exact hok p hp
      · simp at hp
        rw [hp]
        exact ha
  · have hj : es[j]? = some e := by simpa using h2
    have hkeyf : ∀ e', es[j]? = some e' → ({ e' with key := M.key p.1, val := M.val x } : MapEntry).key = e'.key := fun e' he' => by rw [hj] at he'; cases he'; exact h3.symm
    have hlist : (es.modify j (fun e' => { e' with key := M.key p.1, val := M.val x })).toList = es.toList.set j { e with key := M.key p.1, val := M.val x } := by rw [Array.toList_modify, modify_eq_set _ _ _ _ h2]
    refine ⟨setBlock w b (.map (es.modify j fun e' => { e' with key := M.key p.1, val := M.val x }) clock), ?_, ⟨_, _, heap_setBlock_same hb _, stamped_modify hs _ _ (fun _ _ => rfl) (fun e' _ he' => hkeyf e' he'), ?_, ?_⟩, ⟨es, clock, _, _, hb, rfl⟩⟩
    · simp [Instr.mapUpdate, run_underlying M.ht, MapKept.run_getObj_map hb, M.law.check w false hlx, h1, hj, h3, M.law.stays w hlx, MapKept.run_setObj_map _ hb, Result.andThen, setBlock]
    · rw [putL_at (he.apart hs) h4]
      unfold Ents at he ⊢
      rw [hlist, List.map_set, List.map_set, he]
    · rw [putL_at (he.apart hs) h4]
      intro q hq
      rcases List.mem_or_eq_of_mem_set hq with hq | hq
      · exact hok q hq
      · rw [hq]
        exact ha

theorem toList_erase {es : Array MapEntry} {j : Nat} (hj : j < es.toList.length) : (es.eraseIdxIfInBounds j).toList = es.toList.eraseIdx j := by
  unfold Array.eraseIdxIfInBounds
  rw [dif_pos (by simpa using hj)]
  simp

/-- 'delete(m, k)'. -/
theorem drop_ents [DecidableEq α] {es : Array MapEntry} {clock : Nat} (hb : w.heap[b]? = some (.map es clock)) (hs : Stamped es clock) (he : Ents M es l) (hok : ∀ p ∈ l, M.ok p.1) {a : α} (ha : M.ok a) (ty : TypeId) :
    ∃ es', (Builtin.delete_ #[M.t, M.k] ty #[.map (some b), M.key a]).run P w = .ok (.tuple #[]) (setBlock w b (.map es' clock)) ∧ Stamped es' clock ∧ Ents M es' (delL l a) ∧ es'.toList.Sublist es.toList := by
  obtain ⟨lx, hlx⟩ := M.reads ha
  rcases find_ents he hok ha w with ⟨h1, h2, h3⟩ | ⟨j, e, p, h1, h2, h3, h4, rfl⟩
  · refine ⟨es, ?_, hs, by rw [delL_none h2]; exact he, List.Sublist.refl _⟩
    simp [Builtin.delete_, run_underlying M.ht, MapKept.run_getObj_map hb, M.law.check w _ hlx, h1, MapKept.run_setObj_map _ hb, Result.andThen, setBlock]
  · have hsub := toList_erase (List.getElem?_eq_some_iff.1 h2).1
    refine ⟨es.eraseIdxIfInBounds j, ?_, stamped_erase hs j, ?_, by rw [hsub]; exact List.eraseIdx_sublist _ _⟩
    · simp [Builtin.delete_, run_underlying M.ht, MapKept.run_getObj_map hb, M.law.check w _ hlx, h1, MapKept.run_setObj_map _ hb, Result.andThen, setBlock]
    · rw [delL_at (he.apart hs) h4]
      unfold Ents at he ⊢
      rw [hsub, map_eraseIdx, map_eraseIdx, he]
theorem mem_delL [DecidableEq α] {a : α} {p : α × β} (h : p ∈ delL l a) : p ∈ l ∧ p.1 ≠ a := by
  have := List.mem_filter.1 h
  exact ⟨this.1, by simpa using this.2⟩
theorem Mp.drop [DecidableEq α] (h : Mp M w b l) {a : α} (ha : M.ok a) (ty : TypeId) :
    ∃ w', (Builtin.delete_ #[M.t, M.k] ty #[.map (some b), M.key a]).run P w = .ok (.tuple #[]) w' ∧ Mp M w' b (delL l a) ∧ w.mapTurned w' b := by
  obtain ⟨es, clock, hb, hs, he, hok⟩ := h
  obtain ⟨es', hrun, hs', he', _⟩ := drop_ents hb hs he hok ha ty
  exact ⟨_, hrun, ⟨es', clock, heap_setBlock_same hb _, hs', he', fun p hp => hok p (mem_delL hp).1⟩, ⟨es, clock, es', clock, hb, rfl⟩⟩
/-- 'len(m)'. -/
theorem Mp.len (h : Mp M w b l) (ty : TypeId) : (Builtin.len_ #[M.t] ty #[.map (some b)]).run P w = .ok (.int .i64 l.length) w := by
  obtain ⟨es, clock, hb, hs, he, hok⟩ := h
  have := he.len
  simp [Builtin.len_, run_underlying M.ht, MapKept.run_getObj_map hb, goInt, Result.andThen, this]

/-- A loop over the map in block b, by the iterator in block r: 'dn a': the entry at a has come. -/
def Rg (M : Mk P α β) (w : World) (b r : Nat) (l : List (α × β)) (dn : α → Bool) : Prop :=
  ∃ es clock since seen c0, w.heap[b]? = some (.map es clock) ∧ Stamped es clock ∧ Ents M es l ∧ (∀ p ∈ l, M.ok p.1) ∧ w.heap[r]? = some (.mapIter (some b) since seen c0) ∧ (∀ x ∈ es.toList, x.born < since) ∧
    (∀ x ∈ es.toList, ∀ a, x.key = M.key a → dn a = seen.contains x.born) ∧ since ≤ c0 ∧ since ≤ clock

variable {dn : α → Bool}
theorem Rg.mp (h : Rg M w b r l dn) : Mp M w b l := by
  obtain ⟨es, clock, _, _, _, hb, hs, he, hok, _⟩ := h
  exact ⟨es, clock, hb, hs, he, hok⟩
theorem Rg.lt (h : Rg M w b r l dn) : r < w.heap.size := by
  obtain ⟨es, clock, _, _, _, _, _, _, _, hr, _⟩ := h
  exact (Array.getElem?_eq_some_iff.1 hr).1
theorem Rg.ne (h : Rg M w b r l dn) : r ≠ b := by
  obtain ⟨es, clock, _, _, _, hb, _, _, _, hr, _⟩ := h
  intro e
  rw [e, hb] at hr
  cases hr
theorem Rg.same (h : Rg M w b r l dn) (e : w'.heap[b]? = w.heap[b]?) (e' : w'.heap[r]? = w.heap[r]?) : Rg M w' b r l dn := by
  obtain ⟨es, clock, since, seen, c0, hb, hs, he, hok, hr, rest⟩ := h
  exact ⟨es, clock, since, seen, c0, e.trans hb, hs, he, hok, e'.trans hr, rest⟩
theorem left_count {M : Mk P α β} {seen : Array Nat} : ∀ (es : List MapEntry) (l : List (α × β)), es.map (fun e => (e.key, e.val)) = l.map (fun p => (M.key p.1, M.val p.2)) → (∀ x ∈ es, ∀ a, x.key = M.key a → dn a = seen.contains x.born) →
    (es.filter fun e => !seen.contains e.born).length = (l.filter fun p => !dn p.1).length
  | [], [], _, _ => rfl
  | [], p :: l, h, _ => by simp at h
  | e :: es, [], h, _ => by simp at h
  | e :: es, p :: l, h, hd => by
    simp only [List.map_cons, List.cons.injEq, Prod.mk.injEq] at h
    have ih := left_count es l h.2 (fun x hx => hd x (by simp [hx]))
    have h1 := hd e (by simp) p.1 h.1.1
    simp only [List.filter_cons, h1]
    split
    · rw [List.length_cons, List.length_cons, ih]
    · exact ih
theorem Rg.left_eq (h : Rg M w b r l dn) : w.rangeLeft b r = (l.filter fun p => !dn p.1).length := by
  obtain ⟨es, clock, since, seen, c0, hb, hs, he, hok, hr, _, hd, _⟩ := h
  simp only [World.rangeLeft, hb, hr]
  unfold leftOf
  rw [← left_count es.toList l he hd, ← Array.toList_filter, Array.length_toList]
/-- 'range m'. -/
theorem Mp.range (h : Mp M w b l) :
    ∃ w', (Instr.range M.t (.map (some b))).run P w = .ok (.pointer (some ⟨w.heap.size, 0, none⟩)) w' ∧ Rg M w' b w.heap.size l (fun _ => false) ∧ w.grownBy w' none ∧ w'.heap.size = w.heap.size + 1 := by
  have hlt := h.lt
  obtain ⟨es, clock, hb, hs, he, hok⟩ := h
  exact ⟨_, run_range_map w M.t M.k M.e b es clock M.ht hb, ⟨es, clock, clock, #[], clock, ((MapKept.heap_alloc w _).2 b hlt).trans hb, hs, he, hok, (MapKept.heap_alloc w _).1, hs.1, fun x _ a _ => by simp, Nat.le_refl _, Nat.le_refl _⟩, World.grownBy_alloc w _ none, by simp⟩
/-- THE STEP. -/
theorem Rg.next [DecidableEq α] (h : Rg M w b r l dn) (ty : TypeId) :
    ((∀ p ∈ l, dn p.1 = true) ∧ (Instr.next (.pointer (some ⟨r, 0, none⟩)) false ty).run P w = .ok (.tuple #[.bool false]) w) ∨
    ∃ p w', p ∈ l ∧ dn p.1 = false ∧ (Instr.next (.pointer (some ⟨r, 0, none⟩)) false ty).run P w = .ok (.tuple #[.bool true, M.key p.1, M.val p.2]) w' ∧
      Rg M w' b r l (fun a => dn a || decide (a = p.1)) ∧ w.grownBy w' (some r) ∧ w'.heap.size = w.heap.size ∧ (Instr.entry (.pointer (some ⟨r, 0, none⟩))).run P w' = .ok (.tuple #[M.key p.1, M.val p.2]) w' := by
  have hne := h.ne
  obtain ⟨es, clock, since, seen, c0, hb, hs, he, hok, hr, hold, hd, hsc, hsk⟩ := h
  rcases run_next_at (P := P) w ty r b since c0 seen es clock hr hb hold hsc with ⟨h0, hrun⟩ | ⟨e, hmem, w1, hal, hrun⟩
  · refine Or.inl ⟨fun p hp => ?_, hrun⟩
    obtain ⟨x, hx, e1, _⟩ := he.mem' hp
    rw [hd x hx _ e1]
    exact all_seen es seen h0 x hx
  · obtain ⟨hem, hes⟩ := Go.mem_left hmem
    obtain ⟨p, hp, ek, ev⟩ := he.mem hem
    have hr1 : w1.heap[r]? = some (.mapIter (some b) since seen c0) := by rcases hal with rfl | rfl <;> exact hr
    have hb1 : w1.heap[b]? = some (.map es clock) := by rcases hal with rfl | rfl <;> exact hb
    have hset := heap_set (o' := .mapIter (some b) since (seen.push e.born) clock) hr1
    have hrun' := hrun
    rw [ek, ev] at hrun
    have hrb : (setBlock w1 r (.mapIter (some b) since (seen.push e.born) clock)).heap[b]? = some (.map es clock) := (hset.2 b (Ne.symm hne)).trans hb1
    have hgr : w.grownBy (setBlock w1 r (.mapIter (some b) since (seen.push e.born) clock)) (some r) := by
      rcases hal with rfl | rfl
      · exact ⟨rfl, rfl, rfl, by simp [setBlock], fun i _ hi => hset.2 i (fun e => hi (by rw [e]))⟩
      · exact ⟨rfl, rfl, rfl, by simp [setBlock], fun i _ hi => hset.2 i (fun e => hi (by rw [e]))⟩
    refine Or.inr ⟨p, _, hp, by rw [hd e hem _ ek]; exact hes, hrun, ⟨es, clock, since, seen.push e.born, clock, hrb, hs, he, hok, hset.1, hold, fun x hx a ea => ?_, hsk, hsk⟩, hgr, ?_, ?_⟩
    · show (dn a || decide (a = p.1)) = _
      rw [hd x hx a ea]
      by_cases hbe : x.born = e.born
      · obtain rfl := born_inj hs.2.1 hx hem hbe
        have : a = p.1 := M.inj (by rw [← ea, ek])
        simp [this]
      · have : ¬ a = p.1 := fun e1 => hbe (by
          have := entry_eq_of_key ((stamped_iff es clock).1 hs).2.2 hx hem (by rw [ea, ek, e1])
          rw [this])
        simp [this, hbe]
    · rcases hal with rfl | rfl <;> simp [setBlock]
    · have := run_entry_at (P := P) (setBlock w1 r (.mapIter (some b) since (seen.push e.born) clock)) r b since seen es clock e hset.1 hrb hem hs.2.1
      rw [ek, ev] at this
      exact this
/-- 'delete(m, k)' IN THE ROUND. -/
theorem Rg.drop [DecidableEq α] (h : Rg M w b r l dn) {a : α} (ha : M.ok a) (ty : TypeId) :
    ∃ w', (Builtin.delete_ #[M.t, M.k] ty #[.map (some b), M.key a]).run P w = .ok (.tuple #[]) w' ∧ Rg M w' b r (delL l a) dn ∧ w.mapTurned w' b := by
  have hne := h.ne
  obtain ⟨es, clock, since, seen, c0, hb, hs, he, hok, hr, hold, hd, hsc, hsk⟩ := h
  obtain ⟨es', hrun, hs', he', hsub⟩ := drop_ents hb hs he hok ha ty
  exact ⟨_, hrun, ⟨es', clock, since, seen, c0, heap_setBlock_same hb _, hs', he', fun p hp => hok p (mem_delL hp).1, (heap_setBlock_other hb _ hne).trans hr, fun x hx => hold x (hsub.subset hx), fun x hx => hd x (hsub.subset hx), hsc, hsk⟩, ⟨es, clock, es', clock, hb, rfl⟩⟩

/-! ### at the operations, for the walk -/
variable {ops : Array Oper} {rest : List Oper} {o : Oper} {a : Act} {Q : Exit → Act → World → Prop}
theorem wpList_range_M (w : World) (hg : o.guard = none) (m : Operand) (hop : o.op = Op.range M.t m) (b : Nat) (l : List (α × β)) (hm : a.eval m = .map (some b)) (h : Mp M w b l)
    (hK : ∀ w', Rg M w' b w.heap.size l (fun _ => false) → w.grownBy w' none → w'.heap.size = w.heap.size + 1 → wpList P ops Q rest (a.put o.dst (.pointer (some ⟨w.heap.size, 0, none⟩))) w') :
    wpList P ops Q (o :: rest) a w := by
  refine wpList_plain hg fun K' hK' => ?_
  obtain ⟨w', hrun, r1, r2, r3⟩ := h.range
  unfold Oper.wp
  simp [execOp, hop, hm, hrun, Result.andThen]
  exact hK' _ _ (hK w' r1 r2 r3)
theorem wpList_next_M [DecidableEq α] (w : World) (hg : o.guard = none) (it : Operand) (hop : o.op = Op.next it false) (b r : Nat) (l : List (α × β)) (dn : α → Bool) (hit : a.eval it = .pointer (some ⟨r, 0, none⟩)) (h : Rg M w b r l dn)
    (hDone : (∀ p ∈ l, dn p.1 = true) → wpList P ops Q rest (a.put o.dst (.tuple #[.bool false])) w)
    (hMore : ∀ (p : α × β) (w' : World), p ∈ l → dn p.1 = false → Rg M w' b r l (fun a => dn a || decide (a = p.1)) → w.grownBy w' (some r) → w'.heap.size = w.heap.size →
      (Instr.entry (.pointer (some ⟨r, 0, none⟩))).run P w' = .ok (.tuple #[M.key p.1, M.val p.2]) w' → wpList P ops Q rest (a.put o.dst (.tuple #[.bool true, M.key p.1, M.val p.2])) w') :
    wpList P ops Q (o :: rest) a w := by
  refine wpList_plain hg fun K' hK' => ?_
  unfold Oper.wp
  rcases h.next o.type with ⟨h0, hrun⟩ | ⟨p, w', hp, hd, hrun, hrg, hgr, hsz, hen⟩
  · simp [execOp, hop, hit, hrun, Result.andThen]
    exact hK' _ _ (hDone h0)
  · simp [execOp, hop, hit, hrun, Result.andThen]
    exact hK' _ _ (hMore p w' hp hd hrg hgr hsz hen)
theorem wpList_delete_R [DecidableEq α] (w : World) (hg : o.guard = none) (m x : Operand) (hop : o.op = Op.call { callee := Callee.builtin Builtin.delete, args := #[m, x], argTypes := #[M.t, M.k] }) (b r : Nat) (l : List (α × β)) (dn : α → Bool)
    (hm : a.eval m = .map (some b)) (h : Rg M w b r l dn) (c : α) (hc : M.ok c) (hx : a.eval x = M.key c)
    (hK : ∀ w', Rg M w' b r (delL l c) dn → w.mapTurned w' b → wpList P ops Q rest (a.put o.dst (.tuple #[])) w') :
    wpList P ops Q (o :: rest) a w := by
  refine wpList_plain hg fun K' hK' => ?_
  obtain ⟨w', hrun, r1, r2⟩ := h.drop hc o.type
  unfold Oper.wp
  simp [execOp, hop, resolve, invoke, builtin, hm, hx, hrun, Result.andThen]
  exact hK' _ _ (hK w' r1 r2)
theorem wpList_delete_M [DecidableEq α] (w : World) (hg : o.guard = none) (m x : Operand) (hop : o.op = Op.call { callee := Callee.builtin Builtin.delete, args := #[m, x], argTypes := #[M.t, M.k] }) (b : Nat) (l : List (α × β))
    (hm : a.eval m = .map (some b)) (h : Mp M w b l) (c : α) (hc : M.ok c) (hx : a.eval x = M.key c)
    (hK : ∀ w', Mp M w' b (delL l c) → w.mapTurned w' b → wpList P ops Q rest (a.put o.dst (.tuple #[])) w') :
    wpList P ops Q (o :: rest) a w := by
  refine wpList_plain hg fun K' hK' => ?_
  obtain ⟨w', hrun, r1, r2⟩ := h.drop hc o.type
  unfold Oper.wp
  simp [execOp, hop, resolve, invoke, builtin, hm, hx, hrun, Result.andThen]
  exact hK' _ _ (hK w' r1 r2)
end
end Go.Proofs.Ytoimmapdkapheaa
