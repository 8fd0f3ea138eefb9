/- Own texts, joined: QPut, QDrp, ZMake, QSm, QPlT. -/
import Derived.Test.YtdeaniigimmoaaaJE
import Derived.Test.YtdeaniigimmoaaaJA
import Derived.Laws.MakeOwn
import Derived.Test.YtdeaniigimmoaaaJD
import Derived.BigQuiet
/- The document's Put. -/
namespace Go.Proofs.Ytdeaniigimmoaaa
open Go.RowKit

/-- While Put goes on. -/
def PutI (l : List Rw) (x : Rw) (k : Nat) (out : List Rw) (done : Bool) : Prop := putR l x = out ++ (if done = true then l.drop k else putR (l.drop k) x) ∧ out.length ≤ k + 1
theorem puti_start (l : List Rw) (x : Rw) : PutI l x 0 [] false := ⟨rfl, by simp⟩
section
variable {l : List Rw} {x : Rw} {k : Nat} {out : List Rw}
theorem drop_getD (hk : k < l.length) : l.drop k = l.getD k zR :: l.drop (k + 1) := by
  rw [List.drop_eq_getElem_cons hk, List.getD_eq_getElem?_getD, List.getElem?_eq_getElem hk]
  rfl
theorem puti_len (h : PutI l x k out true) (hk : k ≤ l.length) : out.length = k + 1 := by
  have := congrArg List.length h.1
  rw [put_len, List.length_append, if_pos rfl, List.length_drop] at this
  omega
theorem puti_len0 (h : PutI l x k out false) (hk : k ≤ l.length) : out.length = k := by
  have := congrArg List.length h.1
  rw [put_len, List.length_append, if_neg (by simp), put_len, List.length_drop] at this
  omega
theorem puti_1 (h : PutI l x k out true) (hk : k < l.length) : PutI l x (k + 1) (out ++ [l.getD k zR]) true := by
  refine ⟨?_, by rw [List.length_append, puti_len h (Nat.le_of_lt hk)]; simp⟩
  rw [h.1, if_pos rfl, if_pos rfl, drop_getD hk, List.append_assoc]
  rfl
theorem puti_2 (h : PutI l x k out false) (hk : k < l.length) (hx : x.s < (l.getD k zR).s ∨ (x.s = (l.getD k zR).s ∧ x.p < (l.getD k zR).p)) : PutI l x (k + 1) ((out ++ [x]) ++ [l.getD k zR]) true := by
  refine ⟨?_, by rw [List.length_append, List.length_append, puti_len0 h (Nat.le_of_lt hk)]; simp⟩
  rw [h.1, if_neg (by simp), if_pos rfl, drop_getD hk, putR, if_pos hx, List.append_assoc, List.append_assoc]
  rfl
theorem puti_3 (h : PutI l x k out false) (hk : k < l.length) (hx : ¬ (x.s < (l.getD k zR).s ∨ (x.s = (l.getD k zR).s ∧ x.p < (l.getD k zR).p))) : PutI l x (k + 1) (out ++ [l.getD k zR]) false := by
  refine ⟨?_, by rw [List.length_append, puti_len0 h (Nat.le_of_lt hk)]; simp⟩
  rw [h.1, if_neg (by simp), if_neg (by simp), drop_getD hk, putR, if_neg hx, List.append_assoc]
  rfl
theorem puti_end1 (h : PutI l x l.length out true) : out = putR l x := by
  rw [h.1, if_pos rfl, List.drop_length, List.append_nil]
theorem puti_end0 (h : PutI l x l.length out false) : out ++ [x] = putR l x := by
  rw [h.1, if_neg (by simp), List.drop_length, putR]
end
def rwv (x : Rw) : Value := .agg #[.int .i64 x.s, .int .i64 x.p, .int .i64 x.f]
set_option maxRecDepth 100000 in
set_option maxHeartbeats 16000000 in
theorem put_any {B : Nat} {w : World} {v : Value} {l : List Rw} (h : Row rRw B w v l) (hl : l.length ≤ 4096) (x : Rw) : Calls Try.prog 13 #[v, rwv x] w (RowP rRw w (putR l x)) := by
  obtain ⟨ao, c, rfl⟩ := h.form
  obtain ⟨s, p, f⟩ := x
  have hb0 := new_below w (.cells #[.int .i64 s, .int .i64 p, .int .i64 f] 40)
  have HB0 : Hid (Below w.heap.size w (w.alloc (.cells #[.int .i64 s, .int .i64 p, .int .i64 f] 40))) := hb0
  have HR : Hid (Row rRw B (w.alloc (.cells #[.int .i64 s, .int .i64 p, .int .i64 f] 40)) (.slice ao l.length c) l) := h.below hb0
  have x0 : (w.alloc (.cells #[.int .i64 s, .int .i64 p, .int .i64 f] 40)).cell? ⟨w.heap.size, 0, none⟩ = some (.int .i64 s) := by simp
  have x1 : (w.alloc (.cells #[.int .i64 s, .int .i64 p, .int .i64 f] 40)).cell? ⟨w.heap.size, 1, none⟩ = some (.int .i64 p) := by simp
  have x2 : (w.alloc (.cells #[.int .i64 s, .int .i64 p, .int .i64 f] 40)).cell? ⟨w.heap.size, 2, none⟩ = some (.int .i64 f) := by simp
  have lb : w.heap.size < (w.alloc (.cells #[.int .i64 s, .int .i64 p, .int .i64 f] 40)).heap.size := by simp
  have hl9 : l.length ≤ 9223372036854775807 := by omega
  have HL : Hid (l.length ≤ 4096) := hl
  clear h hb0 hl
  unfold rwv
  simp only
  generalize hW : w.alloc (.cells #[.int .i64 s, .int .i64 p, .int .i64 f] 40) = W at *
  have HX : Hid (W.cell? ⟨w.heap.size, 0, none⟩ = some (.int .i64 s) ∧ W.cell? ⟨w.heap.size, 1, none⟩ = some (.int .i64 p) ∧ W.cell? ⟨w.heap.size, 2, none⟩ = some (.int .i64 f) ∧ w.heap.size < W.heap.size) := ⟨x0, x1, x2, lb⟩
  go_enter Try.func13, Try.ntmps13
  go_wp2
  clear x0 x1 x2 lb
  go_loopw [5, 6, 7] (fun av dv iv wr => ∃ (k : Nat) (out : List Rw) (done : Bool), k ≤ l.length ∧ iv = .int .i64 k ∧ dv = .bool done ∧ Hid (PutI l ⟨s, p, f⟩ k out done) ∧ Hid (Row rRw W.heap.size wr av out) ∧ Hid (Below W.heap.size W wr)) (fun _ _ iv _ => l.length - (intOf iv).toNat)
  case atStart => exact ⟨0, [], false, Nat.zero_le _, rfl, rfl, puti_start _ _, Row.nil _ _ _, Below.refl _ _⟩
  case round =>
    obtain ⟨k, out, done, hk, rfl, rfl, HI, HO, HB⟩ := hrel
    have x0 : wr.cell? ⟨w.heap.size, 0, none⟩ = some (.int .i64 s) := ((bcell HB.out).1 _ _ HX.out.2.2.2).trans HX.out.1
    have x1 : wr.cell? ⟨w.heap.size, 1, none⟩ = some (.int .i64 p) := ((bcell HB.out).1 _ _ HX.out.2.2.2).trans HX.out.2.1
    have x2 : wr.cell? ⟨w.heap.size, 2, none⟩ = some (.int .i64 f) := ((bcell HB.out).1 _ _ HX.out.2.2.2).trans HX.out.2.2.1
    by_cases hkl : k < l.length
    · have hki : (k : Int) < (l.length : Int) := by omega
      have hk0 : (0 : Int) ≤ (k : Int) := by omega
      obtain ⟨g, rfl, _, _, hgl, _, _, hat⟩ := (HR.out.below HB.out).at hkl
      obtain ⟨y0, y1, y2⟩ := rRw.at hat
      simp only [show rRw.n = 3 from rfl, show rRw.zero = zR from rfl] at y0 y1 y2
      have HSEE : Hid (∀ w', Below W.heap.size W w' → (w'.cell? ⟨w.heap.size, 0, none⟩ = some (.int .i64 s) ∧ w'.cell? ⟨w.heap.size, 1, none⟩ = some (.int .i64 p) ∧ w'.cell? ⟨w.heap.size, 2, none⟩ = some (.int .i64 f)) ∧ g < w'.heap.size ∧ w'.cell? ⟨g, k * 3, none⟩ = some (.int .i64 (l.getD k zR).s) ∧ w'.cell? ⟨g, k * 3 + 1, none⟩ = some (.int .i64 (l.getD k zR).p) ∧ w'.cell? ⟨g, k * 3 + 2, none⟩ = some (.int .i64 (l.getD k zR).f)) := fun w' hb => by
        obtain ⟨g', e, _, _, hgl, _, _, hat⟩ := (HR.out.below hb).at hkl
        cases e
        obtain ⟨y0, y1, y2⟩ := rRw.at hat
        simp only [show rRw.n = 3 from rfl, show rRw.zero = zR from rfl] at y0 y1 y2
        exact ⟨⟨((bcell hb).1 _ _ HX.out.2.2.2).trans HX.out.1, ((bcell hb).1 _ _ HX.out.2.2.2).trans HX.out.2.1, ((bcell hb).1 _ _ HX.out.2.2.2).trans HX.out.2.2.1⟩, hgl, y0, y1, y2⟩
      have HLN : Hid (out.length ≤ 4096) := by have h1 := HI.out.2; have h2 := HL.out; show out.length ≤ 4096; omega
      clear hat
      cases done with
      | true =>
        have HI2 : Hid (PutI l ⟨s, p, f⟩ (k + 1) (out ++ [l.getD k zR]) true) := puti_1 HI.out hkl
        clear HI
        generalize l.getD k zR = y at *
        obtain ⟨ys, yp, yf⟩ := y
        simp only at y0 y1 y2 HSEE
        go_wp2
        go_quiet (fail)
        have HB5 : Hid (Below W.heap.size W (wr.drewN nq)) := below_drewN HB.out nq
        have HR5 : Hid (Row rRw W.heap.size (wr.drewN nq) u5 out) := HO.out.below (below_drewN (Below.refl _ _) nq)
        clear HO x0 x1 x2 y0 y1 y2 HB hgl
        generalize wr.drewN nq = w5 at *
        obtain ⟨⟨x0, x1, x2⟩, hgl, y0, y1, y2⟩ := HSEE.out _ HB5.out
        have HRA : Hid (∀ o1, Row rRw W.heap.size (w5.alloc o1) u5 (out)) := fun o1 => HR5.out.below (new_below _ _)
        clear HR5
        go_wp2_with (at_builtin; refine list_app rRw.kin rfl _ _ rfl W.heap.size _ (out) [⟨ys, yp, yf⟩] rfl (HRA.out _) (some ⟨w5.heap.size, 0, none⟩) 1 1 rfl rfl ?a2 ?a3 ?a4 ?a5 ?_)
        case a2 => exact Seen.one (by simp) (At.new (R := rRw) _ ⟨ys, yp, yf⟩ _ rfl) 1
        case a3 => have := HLN.out; simp only [List.length_cons, List.length_nil]; unfold maxLen; omega
        case a4 => have := HLN.out; simp only [List.length_cons, List.length_nil, show rRw.bytes = 24 from rfl]; omega
        case a5 => have := HB5.out.size; simp; omega
        intro v' w7 hrow hgrow
        have HR7 : Hid (Row rRw W.heap.size w7 v' ((out) ++ [⟨ys, yp, yf⟩])) := by
          show Row _ _ _ _ _
          first | exact hrow | (rw [List.append_assoc]; exact hrow)
        have HB7 : Hid (Below W.heap.size W w7) := (HB5.out.alloc HB5.out.size _).grown hgrow (by have := HB5.out.size; simp; omega) (fun j hj => ((HRA.out default).lt j hj).1)
        clear hrow hgrow x0 x1 x2 y0 y1 y2
        go_wp2
        go_roundw
        case rel => exact ⟨k + 1, _, true, hkl, by go_num, rfl, HI2, HR7, HB7⟩
        case measure => simp only [intOf]; omega
      | false =>
        have HI2 : Hid (s < (l.getD k zR).s ∨ (s = (l.getD k zR).s ∧ p < (l.getD k zR).p) → PutI l ⟨s, p, f⟩ (k + 1) ((out ++ [⟨s, p, f⟩]) ++ [l.getD k zR]) true) := fun h => puti_2 HI.out hkl h
        have HI3 : Hid (¬ (s < (l.getD k zR).s ∨ (s = (l.getD k zR).s ∧ p < (l.getD k zR).p)) → PutI l ⟨s, p, f⟩ (k + 1) (out ++ [l.getD k zR]) false) := fun h => puti_3 HI.out hkl h
        clear HI
        generalize l.getD k zR = y at *
        obtain ⟨ys, yp, yf⟩ := y
        simp only at y0 y1 y2 HSEE HI2 HI3
        by_cases h1 : s < ys
        · have d1 : decide (s < ys) = true := decide_eq_true h1
          have HI4 : Hid (PutI l ⟨s, p, f⟩ (k + 1) ((out ++ [⟨s, p, f⟩]) ++ [⟨ys, yp, yf⟩]) true) := HI2.out (Or.inl h1)
          clear HI2 HI3
          go_wp2
          go_quiet (fail)
          have HB5 : Hid (Below W.heap.size W (wr.drewN nq)) := below_drewN HB.out nq
          have HR5 : Hid (Row rRw W.heap.size (wr.drewN nq) u5 out) := HO.out.below (below_drewN (Below.refl _ _) nq)
          clear HO x0 x1 x2 y0 y1 y2 HB hgl
          generalize wr.drewN nq = w5 at *
          obtain ⟨⟨x0, x1, x2⟩, -, -⟩ := HSEE.out _ HB5.out
          have HRA : Hid (∀ o1, Row rRw W.heap.size (w5.alloc o1) u5 out) := fun o1 => HR5.out.below (new_below _ _)
          clear HR5
          go_wp2_with (at_builtin; refine list_app rRw.kin rfl _ _ rfl W.heap.size _ out [⟨s, p, f⟩] rfl (HRA.out _) (some ⟨w5.heap.size, 0, none⟩) 1 1 rfl rfl ?a2 ?a3 ?a4 ?a5 ?_)
          case a2 => exact Seen.one (by simp) (At.new (R := rRw) _ ⟨s, p, f⟩ _ rfl) 1
          case a3 => have := HLN.out; simp only [List.length_cons, List.length_nil]; unfold maxLen; omega
          case a4 => have := HLN.out; simp only [List.length_cons, List.length_nil, show rRw.bytes = 24 from rfl]; omega
          case a5 => have := HB5.out.size; simp; omega
          intro v6 w6 hrow hgrow
          have HR6 : Hid (Row rRw W.heap.size w6 v6 (out ++ [⟨s, p, f⟩])) := hrow
          have HB6 : Hid (Below W.heap.size W w6) := (HB5.out.alloc HB5.out.size _).grown hgrow (by have := HB5.out.size; simp; omega) (fun j hj => ((HRA.out default).lt j hj).1)
          clear hrow hgrow x0 x1 x2 HB5 HRA
          obtain ⟨⟨x0, x1, x2⟩, hgl, y0, y1, y2⟩ := HSEE.out _ HB6.out
          have HRA : Hid (∀ o1, Row rRw W.heap.size (w6.alloc o1) v6 (out ++ [⟨s, p, f⟩])) := fun o1 => HR6.out.below (new_below _ _)
          clear HR6
          go_wp2_with (at_builtin; refine list_app rRw.kin rfl _ _ rfl W.heap.size _ (out ++ [⟨s, p, f⟩]) [⟨ys, yp, yf⟩] rfl (HRA.out _) (some ⟨w6.heap.size, 0, none⟩) 1 1 rfl rfl ?a2 ?a3 ?a4 ?a5 ?_)
          case a2 => exact Seen.one (by simp) (At.new (R := rRw) _ ⟨ys, yp, yf⟩ _ rfl) 1
          case a3 => have := HLN.out; simp only [List.length_append, List.length_cons, List.length_nil]; unfold maxLen; omega
          case a4 => have := HLN.out; simp only [List.length_append, List.length_cons, List.length_nil, show rRw.bytes = 24 from rfl]; omega
          case a5 => have := HB6.out.size; simp; omega
          intro v' w7 hrow hgrow
          have HR7 : Hid (Row rRw W.heap.size w7 v' ((out ++ [⟨s, p, f⟩]) ++ [⟨ys, yp, yf⟩])) := by
            show Row _ _ _ _ _
            first | exact hrow | (rw [List.append_assoc]; exact hrow)
          have HB7 : Hid (Below W.heap.size W w7) := (HB6.out.alloc HB6.out.size _).grown hgrow (by have := HB6.out.size; simp; omega) (fun j hj => ((HRA.out default).lt j hj).1)
          clear hrow hgrow x0 x1 x2 y0 y1 y2
          go_wp2
          go_roundw
          case rel => exact ⟨k + 1, _, true, hkl, by go_num, rfl, HI4, HR7, HB7⟩
          case measure => simp only [intOf]; omega
        · have d1 : decide (s < ys) = false := decide_eq_false h1
          by_cases h2 : s = ys
          · have d2 : (ys == s) = true := by simpa using h2.symm
            have H2 : Hid (s = ys) := h2
            clear h2
            by_cases h3 : p < yp
            · have d3 : decide (p < yp) = true := decide_eq_true h3
              have HI4 : Hid (PutI l ⟨s, p, f⟩ (k + 1) ((out ++ [⟨s, p, f⟩]) ++ [⟨ys, yp, yf⟩]) true) := HI2.out (Or.inr ⟨H2.out, h3⟩)
              clear HI2 HI3
              go_wp2
              go_quiet (fail)
              have HB5 : Hid (Below W.heap.size W (wr.drewN nq)) := below_drewN HB.out nq
              have HR5 : Hid (Row rRw W.heap.size (wr.drewN nq) u5 out) := HO.out.below (below_drewN (Below.refl _ _) nq)
              clear HO x0 x1 x2 y0 y1 y2 HB hgl
              generalize wr.drewN nq = w5 at *
              obtain ⟨⟨x0, x1, x2⟩, -, -⟩ := HSEE.out _ HB5.out
              have HRA : Hid (∀ o1, Row rRw W.heap.size (w5.alloc o1) u5 out) := fun o1 => HR5.out.below (new_below _ _)
              clear HR5
              go_wp2_with (at_builtin; refine list_app rRw.kin rfl _ _ rfl W.heap.size _ out [⟨s, p, f⟩] rfl (HRA.out _) (some ⟨w5.heap.size, 0, none⟩) 1 1 rfl rfl ?a2 ?a3 ?a4 ?a5 ?_)
              case a2 => exact Seen.one (by simp) (At.new (R := rRw) _ ⟨s, p, f⟩ _ rfl) 1
              case a3 => have := HLN.out; simp only [List.length_cons, List.length_nil]; unfold maxLen; omega
              case a4 => have := HLN.out; simp only [List.length_cons, List.length_nil, show rRw.bytes = 24 from rfl]; omega
              case a5 => have := HB5.out.size; simp; omega
              intro v6 w6 hrow hgrow
              have HR6 : Hid (Row rRw W.heap.size w6 v6 (out ++ [⟨s, p, f⟩])) := hrow
              have HB6 : Hid (Below W.heap.size W w6) := (HB5.out.alloc HB5.out.size _).grown hgrow (by have := HB5.out.size; simp; omega) (fun j hj => ((HRA.out default).lt j hj).1)
              clear hrow hgrow x0 x1 x2 HB5 HRA
              obtain ⟨⟨x0, x1, x2⟩, hgl, y0, y1, y2⟩ := HSEE.out _ HB6.out
              have HRA : Hid (∀ o1, Row rRw W.heap.size (w6.alloc o1) v6 (out ++ [⟨s, p, f⟩])) := fun o1 => HR6.out.below (new_below _ _)
              clear HR6
              go_wp2_with (at_builtin; refine list_app rRw.kin rfl _ _ rfl W.heap.size _ (out ++ [⟨s, p, f⟩]) [⟨ys, yp, yf⟩] rfl (HRA.out _) (some ⟨w6.heap.size, 0, none⟩) 1 1 rfl rfl ?a2 ?a3 ?a4 ?a5 ?_)
              case a2 => exact Seen.one (by simp) (At.new (R := rRw) _ ⟨ys, yp, yf⟩ _ rfl) 1
              case a3 => have := HLN.out; simp only [List.length_append, List.length_cons, List.length_nil]; unfold maxLen; omega
              case a4 => have := HLN.out; simp only [List.length_append, List.length_cons, List.length_nil, show rRw.bytes = 24 from rfl]; omega
              case a5 => have := HB6.out.size; simp; omega
              intro v' w7 hrow hgrow
              have HR7 : Hid (Row rRw W.heap.size w7 v' ((out ++ [⟨s, p, f⟩]) ++ [⟨ys, yp, yf⟩])) := by
                show Row _ _ _ _ _
                first | exact hrow | (rw [List.append_assoc]; exact hrow)
              have HB7 : Hid (Below W.heap.size W w7) := (HB6.out.alloc HB6.out.size _).grown hgrow (by have := HB6.out.size; simp; omega) (fun j hj => ((HRA.out default).lt j hj).1)
              clear hrow hgrow x0 x1 x2 y0 y1 y2
              go_wp2
              go_roundw
              case rel => exact ⟨k + 1, _, true, hkl, by go_num, rfl, HI4, HR7, HB7⟩
              case measure => simp only [intOf]; omega
            · have d3 : decide (p < yp) = false := decide_eq_false h3
              have HI4 : Hid (PutI l ⟨s, p, f⟩ (k + 1) (out ++ [⟨ys, yp, yf⟩]) false) := HI3.out fun h => by rcases h with h | h; exact h1 h; exact h3 h.2
              clear HI2 HI3
              go_wp2
              go_quiet (fail)
              have HB5 : Hid (Below W.heap.size W (wr.drewN nq)) := below_drewN HB.out nq
              have HR5 : Hid (Row rRw W.heap.size (wr.drewN nq) u5 out) := HO.out.below (below_drewN (Below.refl _ _) nq)
              clear HO x0 x1 x2 y0 y1 y2 HB hgl
              generalize wr.drewN nq = w5 at *
              obtain ⟨⟨x0, x1, x2⟩, hgl, y0, y1, y2⟩ := HSEE.out _ HB5.out
              have HRA : Hid (∀ o1, Row rRw W.heap.size (w5.alloc o1) u5 (out)) := fun o1 => HR5.out.below (new_below _ _)
              clear HR5
              go_wp2_with (at_builtin; refine list_app rRw.kin rfl _ _ rfl W.heap.size _ (out) [⟨ys, yp, yf⟩] rfl (HRA.out _) (some ⟨w5.heap.size, 0, none⟩) 1 1 rfl rfl ?a2 ?a3 ?a4 ?a5 ?_)
              case a2 => exact Seen.one (by simp) (At.new (R := rRw) _ ⟨ys, yp, yf⟩ _ rfl) 1
              case a3 => have := HLN.out; simp only [List.length_cons, List.length_nil]; unfold maxLen; omega
              case a4 => have := HLN.out; simp only [List.length_cons, List.length_nil, show rRw.bytes = 24 from rfl]; omega
              case a5 => have := HB5.out.size; simp; omega
              intro v' w7 hrow hgrow
              have HR7 : Hid (Row rRw W.heap.size w7 v' ((out) ++ [⟨ys, yp, yf⟩])) := by
                show Row _ _ _ _ _
                first | exact hrow | (rw [List.append_assoc]; exact hrow)
              have HB7 : Hid (Below W.heap.size W w7) := (HB5.out.alloc HB5.out.size _).grown hgrow (by have := HB5.out.size; simp; omega) (fun j hj => ((HRA.out default).lt j hj).1)
              clear hrow hgrow x0 x1 x2 y0 y1 y2
              go_wp2
              go_roundw
              case rel => exact ⟨k + 1, _, false, hkl, by go_num, rfl, HI4, HR7, HB7⟩
              case measure => simp only [intOf]; omega
          · have d2 : (ys == s) = false := by simpa using fun e => h2 e.symm
            have HI4 : Hid (PutI l ⟨s, p, f⟩ (k + 1) (out ++ [⟨ys, yp, yf⟩]) false) := HI3.out fun h => by rcases h with h | h; exact h1 h; exact h2 h.1
            clear HI2 HI3
            go_wp2
            go_quiet (fail)
            have HB5 : Hid (Below W.heap.size W (wr.drewN nq)) := below_drewN HB.out nq
            have HR5 : Hid (Row rRw W.heap.size (wr.drewN nq) u5 out) := HO.out.below (below_drewN (Below.refl _ _) nq)
            clear HO x0 x1 x2 y0 y1 y2 HB hgl
            generalize wr.drewN nq = w5 at *
            obtain ⟨⟨x0, x1, x2⟩, hgl, y0, y1, y2⟩ := HSEE.out _ HB5.out
            have HRA : Hid (∀ o1, Row rRw W.heap.size (w5.alloc o1) u5 (out)) := fun o1 => HR5.out.below (new_below _ _)
            clear HR5
            go_wp2_with (at_builtin; refine list_app rRw.kin rfl _ _ rfl W.heap.size _ (out) [⟨ys, yp, yf⟩] rfl (HRA.out _) (some ⟨w5.heap.size, 0, none⟩) 1 1 rfl rfl ?a2 ?a3 ?a4 ?a5 ?_)
            case a2 => exact Seen.one (by simp) (At.new (R := rRw) _ ⟨ys, yp, yf⟩ _ rfl) 1
            case a3 => have := HLN.out; simp only [List.length_cons, List.length_nil]; unfold maxLen; omega
            case a4 => have := HLN.out; simp only [List.length_cons, List.length_nil, show rRw.bytes = 24 from rfl]; omega
            case a5 => have := HB5.out.size; simp; omega
            intro v' w7 hrow hgrow
            have HR7 : Hid (Row rRw W.heap.size w7 v' ((out) ++ [⟨ys, yp, yf⟩])) := by
              show Row _ _ _ _ _
              first | exact hrow | (rw [List.append_assoc]; exact hrow)
            have HB7 : Hid (Below W.heap.size W w7) := (HB5.out.alloc HB5.out.size _).grown hgrow (by have := HB5.out.size; simp; omega) (fun j hj => ((HRA.out default).lt j hj).1)
            clear hrow hgrow x0 x1 x2 y0 y1 y2
            go_wp2
            go_roundw
            case rel => exact ⟨k + 1, _, false, hkl, by go_num, rfl, HI4, HR7, HB7⟩
            case measure => simp only [intOf]; omega
    · obtain rfl : k = l.length := by omega
      have HLN : Hid (out.length ≤ 4097) := by have h1 := HI.out.2; have h2 := HL.out; show out.length ≤ 4097; omega
      cases done with
      | true =>
        have hR := HO.out
        rw [puti_end1 HI.out] at hR
        obtain ⟨a2, c2, rfl⟩ := hR.form
        have HE : Hid (Bec (fun _ => False) w (.row rRw (.slice a2 (putR l ⟨s, p, f⟩).length c2) (putR l ⟨s, p, f⟩)) wr) := row_new (hR.lower HB0.out.size) (below_call' HB0.out HB.out)
        clear hR HO HI
        go_wp2
        go_ret
        exact ⟨a2, c2, rfl, HE⟩
      | false =>
        have HE : Hid (out ++ [⟨s, p, f⟩] = putR l ⟨s, p, f⟩) := puti_end0 HI.out
        have HRA : Hid (∀ o1, Row rRw W.heap.size (wr.alloc o1) u5 out) := fun o1 => HO.out.below (new_below _ _)
        clear HI HO
        go_wp2_with (at_builtin; refine list_app rRw.kin rfl _ _ rfl W.heap.size _ out [⟨s, p, f⟩] rfl (HRA.out _) (some ⟨wr.heap.size, 0, none⟩) 1 1 rfl rfl ?a2 ?a3 ?a4 ?a5 ?_)
        case a2 => exact Seen.one (by simp) (At.new (R := rRw) _ ⟨s, p, f⟩ _ rfl) 1
        case a3 => have := HLN.out; simp only [List.length_cons, List.length_nil]; unfold maxLen; omega
        case a4 => have := HLN.out; simp only [List.length_cons, List.length_nil, show rRw.bytes = 24 from rfl]; omega
        case a5 => have := HB.out.size; simp; omega
        intro v6 w6 hrow hgrow
        rw [HE.out] at hrow
        obtain ⟨a2, c2, rfl⟩ := hrow.form
        have HB7 : Below W.heap.size W w6 := (HB.out.alloc HB.out.size _).grown hgrow (by have := HB.out.size; simp; omega) (fun j hj => ((HRA.out default).lt j hj).1)
        have HE2 : Hid (Bec (fun _ => False) w (.row rRw (.slice a2 (putR l ⟨s, p, f⟩).length c2) (putR l ⟨s, p, f⟩)) w6) := row_new (hrow.lower HB0.out.size) (below_call' HB0.out HB7)
        clear hrow hgrow HB7
        go_wp2
        go_ret
        exact ⟨a2, c2, rfl, HE2⟩
end Go.Proofs.Ytdeaniigimmoaaa
/- The document's Drop. -/
namespace Go.Proofs.Ytdeaniigimmoaaa
open Go.RowKit

set_option maxRecDepth 100000 in
set_option maxHeartbeats 8000000 in
theorem drop_any {B : Nat} {w : World} {v : Value} {l : List Rw} (h : Row rRw B w v l) (hl : l.length ≤ 4096) {i : Nat} (hi : i < l.length) : Calls Try.prog 15 #[v, .int .i64 i] w (RowP rRw w (l.take i ++ l.drop (i + 1))) := by
  obtain ⟨ao, c, rfl⟩ := h.form
  obtain ⟨g, rfl, -, -, -, hlc, hcm, -⟩ := h.at hi
  have hs : ∀ w', Below w.heap.size w w' → Seen rRw w' (some ⟨g, 0, none⟩) c l := fun w' hb => (h.below hb).seen.2
  have HS1 : Hid (∀ w', Below w.heap.size w w' → Seen rRw w' (some ⟨g, 0, none⟩) c (l.take i)) := fun w' hb => (hs w' hb).part 0 i 0 c (by omega) (Or.inr (by simp))
  obtain ⟨A, hA, HS2⟩ : ∃ A : Addr, (if c = i + 1 then some (⟨g, 0, none⟩ : Addr) else some ⟨g, (i + 1) * 3, none⟩) = some A ∧ Hid (∀ w', Below w.heap.size w w' → Seen rRw w' (some A) (c - (i + 1)) (l.drop (i + 1))) := by
    have e : (l.drop (i + 1)).take (l.length - (i + 1)) = l.drop (i + 1) := List.take_of_length_le (by rw [List.length_drop]; exact Nat.le_refl _)
    by_cases hc : c = i + 1
    · refine ⟨⟨g, 0, none⟩, if_pos hc, fun w' hb => ?_⟩
      have := (hs w' hb).part (i + 1) (l.length - (i + 1)) 0 (c - (i + 1)) (by omega) (Or.inl (by omega))
      rwa [e] at this
    · refine ⟨⟨g, (i + 1) * 3, none⟩, if_neg hc, fun w' hb => ?_⟩
      have := (hs w' hb).part (i + 1) (l.length - (i + 1)) ((i + 1) * 3) (c - (i + 1)) (by omega) (Or.inr (by rw [Nat.zero_add]; rfl))
      rwa [e] at this
  have HL : Hid ((l.take i).length = i ∧ (l.drop (i + 1)).length = l.length - (i + 1) ∧ l.length ≤ 4096 ∧ i < l.length) := ⟨by rw [List.length_take]; omega, List.length_drop, hl, hi⟩
  have hic : i ≤ c := by omega
  have hjc : i + 1 ≤ c := by omega
  have hil : (i : Int) ≤ (l.length : Int) := by omega
  have q0 : (0 : Int) ≤ (i : Int) := by omega
  have q1 : (0 : Int) ≤ (i : Int) + 1 ∧ (i : Int) + 1 ≤ (l.length : Int) := by omega
  have q2 : IntKind.i64.wrap ((i : Int) + 1) = (i : Int) + 1 := by rw [IntKind.wrap_i64]; unfold maxLen at hcm; omega
  have q3 : ((i : Int) + 1).toNat = i + 1 := by omega
  have hHeld : True := trivial
  obtain ⟨M, hM⟩ : ∃ M, M = l.take i ++ l.drop (i + 1) := ⟨_, rfl⟩
  rw [← hM]
  have HM : Hid (M = l.take i ++ l.drop (i + 1)) := hM
  clear h hs hl hcm hM
  go_enter Try.func15, Try.ntmps15
  go_wp2_with fail
  refine wp_region_X (fun _ => True) [] (by kernel_rfl) ?_
  refine wpAnyX_take (i := 1) (v := ?v1) rfl (by kernel_rfl) (by kernel_rfl) (by kernel_rfl) (by kernel_rfl) (by kernel_rfl) (fun _ _ _ h => h) (Or.inl ⟨by rfl, ?hy1⟩) hHeld ?rest1
  case hy1 => intro w hSw; (try dsimp only at hSw); go_simp; try with_reducible rfl
  case rest1 =>
  simp only [Act.put, List.setIfInBounds_toArray, List.getElem_toArray]
  refine wpAnyX_take (i := 2) (v := ?v2) rfl (by kernel_rfl) (by kernel_rfl) (by kernel_rfl) (by kernel_rfl) (by kernel_rfl) (fun _ _ _ h => h) (Or.inl ⟨by rfl, ?hy2⟩) hHeld ?rest2
  case hy2 => intro w hSw; (try dsimp only at hSw); go_simp; try with_reducible rfl
  case rest2 =>
  simp only [Act.put, List.setIfInBounds_toArray, List.set_cons_zero, List.set_cons_succ, List.getElem_toArray, List.getElem_cons_zero, List.getElem_cons_succ]
  refine wpAnyX_take (i := 3) (v := ?v3) rfl (by kernel_rfl) (by kernel_rfl) (by kernel_rfl) (by kernel_rfl) (by kernel_rfl) (fun _ _ _ h => h) (Or.inl ⟨by rfl, ?hy3⟩) hHeld ?rest3
  case hy3 => intro w hSw; (try dsimp only at hSw); go_simp; try with_reducible rfl
  case rest3 =>
  simp only [Act.put, List.setIfInBounds_toArray, List.set_cons_zero, List.set_cons_succ, List.getElem_toArray, List.getElem_cons_zero, List.getElem_cons_succ]
  refine wpAnyX_take (i := 5) (v := ?v5) rfl (by kernel_rfl) (by kernel_rfl) (by kernel_rfl) (by kernel_rfl) (by kernel_rfl) (fun _ _ _ h => h) (Or.inl ⟨by rfl, ?hy5⟩) hHeld ?rest5
  case hy5 => intro w hSw; (try dsimp only at hSw); go_simp; try with_reducible rfl
  case rest5 =>
  simp only [Act.put, List.setIfInBounds_toArray, List.set_cons_zero, List.set_cons_succ, List.getElem_toArray, List.getElem_cons_zero, List.getElem_cons_succ]
  refine wpAnyX_take (i := 6) (v := ?v6) rfl (by kernel_rfl) (by kernel_rfl) (by kernel_rfl) (by kernel_rfl) (by kernel_rfl) (fun _ _ _ h => h) (Or.inl ⟨by rfl, ?hy6⟩) hHeld ?rest6
  case hy6 => intro w hSw; (try dsimp only at hSw); go_simp; try with_reducible rfl
  case rest6 =>
  simp only [Act.put, List.setIfInBounds_toArray, List.set_cons_zero, List.set_cons_succ, List.getElem_toArray, List.getElem_cons_zero, List.getElem_cons_succ]
  refine wpAnyX_take (i := 7) (v := ?v7) rfl (by kernel_rfl) (by kernel_rfl) (by kernel_rfl) (by kernel_rfl) (by kernel_rfl) (fun _ _ _ h => h) (Or.inl ⟨by rfl, ?hy7⟩) hHeld ?rest7
  case hy7 => intro w hSw; (try dsimp only at hSw); go_simp; try with_reducible rfl
  case rest7 =>
  simp only [Act.put, List.setIfInBounds_toArray, List.set_cons_zero, List.set_cons_succ, List.getElem_toArray, List.getElem_cons_zero, List.getElem_cons_succ]
  refine wpAnyX_take (i := 8) (v := ?v8) rfl (by kernel_rfl) (by kernel_rfl) (by kernel_rfl) (by kernel_rfl) (by kernel_rfl) (fun _ _ _ h => h) (Or.inl ⟨by rfl, ?hy8⟩) hHeld ?rest8
  case hy8 => intro w hSw; (try dsimp only at hSw); go_simp; try with_reducible rfl
  case rest8 =>
  simp only [Act.put, List.setIfInBounds_toArray, List.set_cons_zero, List.set_cons_succ, List.getElem_toArray, List.getElem_cons_zero, List.getElem_cons_succ]
  refine wpAnyX_one (i := 0) (by kernel_rfl) rfl (fun K hK => ?_)
  go_simp
  have HB1 : Hid (Below w.heap.size w (w.drew.alloc (.cells #[] 40))) := (Below.refl _ _).drew.alloc (Nat.le_refl _) _
  have hl0 : Laid (w.drew.alloc (.cells #[] 40)) w.heap.size 40 #[] := by
    have := Laid.new w.drew 40 #[]
    simpa using this
  have HR0 : Hid (Row rRw w.heap.size (w.drew.alloc (.cells #[] 40)) (.slice (some ⟨w.heap.size, 0, none⟩) 0 0) []) := Row.of_cells (l' := []) (cur := #[]) (Nat.le_refl _) hl0 (Nat.zero_le _) (Nat.zero_le _) (by simp) (fun k hk => absurd hk (Nat.not_lt_zero _))
  clear hl0
  refine hK.out _ _ trivial ?_
  clear hK K
  refine wpAnyX_one (i := 4) (by kernel_rfl) rfl (fun K hK => ?_)
  refine step_app rRw.kin rfl (.tmp 5) (.tmp 8) rfl w.heap.size _ [] (l.take i) rfl HR0.out (some ⟨g, 0, none⟩) i c rfl HL.out.1.symm (HS1.out _ HB1.out) ?a1 ?a2 ?a3 ?_
  case a1 => have := HL.out; simp only [List.length_nil]; unfold maxLen; omega
  case a2 => have := HL.out; simp only [List.length_nil, show rRw.bytes = 24 from rfl]; omega
  case a3 => exact HB1.out.size
  intro v2 w2 hr2 hg2
  rw [List.nil_append] at hr2
  have HB2 : Hid (Below w.heap.size w w2) := HB1.out.grown hg2 HB1.out.size (fun j hj => (HR0.out.lt j hj).1)
  have HR2 : Hid (Row rRw w.heap.size w2 v2 (l.take i)) := hr2
  clear hr2 hg2
  refine hK.out _ _ trivial ?_
  clear hK K
  refine wpAnyX_one (i := 9) (by kernel_rfl) rfl (fun K hK => ?_)
  refine step_app rRw.kin rfl (.tmp 9) (.tmp 13) rfl w.heap.size _ (l.take i) (l.drop (i + 1)) rfl HR2.out (some A) (l.length - (i + 1)) (c - (i + 1)) rfl HL.out.2.1.symm (HS2.out _ HB2.out) ?a1 ?a2 ?a3 ?_
  case a1 => have := HL.out; unfold maxLen; omega
  case a2 => have := HL.out; simp only [show rRw.bytes = 24 from rfl]; omega
  case a3 => exact HB2.out.size
  intro v3 w3 hr3 hg3
  have hb3 : Below w.heap.size w w3 := HB2.out.grown hg3 HB2.out.size (fun j hj => (HR2.out.lt j hj).1)
  rw [← HM.out] at hr3
  obtain ⟨a3, c3, rfl⟩ := hr3.form
  have HE : Hid (RowP rRw w M (.returned (.slice a3 M.length c3)) w3) := ⟨a3, c3, rfl, row_new hr3 hb3⟩
  clear hr3 hg3 hb3
  refine hK.out _ _ trivial ?_
  clear hK K
  refine wpAnyX_take (i := 10) (v := ?v10) rfl (by kernel_rfl) (by kernel_rfl) (by kernel_rfl) (by kernel_rfl) (by kernel_rfl) (fun _ _ _ h => h) (Or.inl ⟨by rfl, ?hy10⟩) hHeld ?rest10
  case hy10 => intro w hSw; (try dsimp only at hSw); go_simp; try with_reducible rfl
  case rest10 =>
  simp only [Act.put, List.setIfInBounds_toArray, List.set_cons_zero, List.set_cons_succ, List.getElem_toArray, List.getElem_cons_zero, List.getElem_cons_succ]
  refine wpAnyX_done (by kernel_rfl) ?_ _
  go_wp2
  go_ret
  exact HE.out
end Go.Proofs.Ytdeaniigimmoaaa
/- 'make([]T, n)': a row of zeros. No word of the program. -/
namespace Go.Proofs.Ytdeaniigimmoaaa
open Go.RowKit

theorem made_at (zc : Array Value) (m j : Nat) (h : j < m) : (madeCells zc m)[j]? = some (zc[j % zc.size]!) := by
  unfold madeCells
  rw [Array.getElem?_map, Array.getElem?_range, if_pos h]
  rfl
section
variable {P : Program} {α : Type} {R : Rec α} {s : TypeId}
theorem run_makeR (k : Kin P R s) (hz : ∀ i z, P.info? R.t = some i → i.zero = some z → z.cells = (R.cells R.zero).toArray) (w : World) (n : Nat) (hm : n ≤ maxLen) (hb : R.bytes * n ≤ 281474976710656) :
    ∃ cs : Array Value, (Instr.makeSlice s (.int .i64 n) (.int .i64 n)).run P w = .ok (.slice (some ⟨w.heap.size, 0, none⟩) n n) (w.alloc (.cells cs R.t)) ∧ Row R w.heap.size (w.alloc (.cells cs R.t)) (.slice (some ⟨w.heap.size, 0, none⟩) n n) (List.replicate n R.zero) := by
  obtain ⟨i, z, hi, hz0, hz1, hz2, hzs⟩ := k.inf
  have hzc := hz i z hi hz0
  have hb' : (i.bytes : Int) * (n : Int) ≤ 281474976710656 := by
    have h : ((i.bytes * n : Nat) : Int) ≤ 281474976710656 := by rw [hz2]; omega
    rwa [Int.natCast_mul] at h
  have hr := run_make (P := P) w s R.t i z k.und hi hz0 .i64 .i64 n n (by omega) (Int.le_refl _) hb' (by unfold maxLen at hm; omega)
  simp only [Int.toNat_natCast] at hr
  refine ⟨_, hr, ?_⟩
  have hlen : (List.replicate n R.zero).length = n := by simp
  have := Row.of_cells (R := R) (B := w.heap.size) (w' := w.alloc (.cells (madeCells z.cells (n * i.size)) R.t)) (g := w.heap.size) (c := n) (l' := List.replicate n R.zero) (Nat.le_refl _) (heap_alloc_new w _) (by rw [hlen]; exact Nat.le_refl _) hm (by rw [size_madeCells, hz1]) (by
    intro q hq j hj
    rw [hlen] at hq
    have hlt : q * R.n + j < n * R.n := by
      have : (q + 1) * R.n ≤ n * R.n := Nat.mul_le_mul_right _ hq
      rw [Nat.add_mul] at this
      omega
    rw [hz1, made_at _ _ _ hlt, hzc]
    have e1 : (q * R.n + j) % (R.cells R.zero).toArray.size = j := by
      rw [List.size_toArray, R.len, Nat.mul_comm, Nat.mul_add_mod, Nat.mod_eq_of_lt hj]
    rw [e1, List.getD_eq_getElem?_getD, List.getElem?_replicate, if_pos hq, Option.getD_some]
    have hjl : j < (R.cells R.zero).length := by rw [R.len]; exact hj
    rw [List.getElem?_eq_getElem hjl]
    simp [hjl])
  rwa [hlen] at this
end
end Go.Proofs.Ytdeaniigimmoaaa
/- Does a map tell what rows tell? -/
namespace Go.Proofs.Ytdeaniigimmoaaa
open Go.RowKit

set_option maxRecDepth 100000 in
set_option maxHeartbeats 16000000 in
theorem same_any {A : Nat → Prop} {B : Nat} {w : World} {m : Nat} {v : Value} {l : List Rw} (h : (RmT m l).In A w) (hr : Row rRw B w v l) : Calls Try.prog 17 #[.pointer (some ⟨m, 0, none⟩), v] w fun e w' => e = .returned (.bool true) ∧ Hid (Below w.heap.size w w') := by
  obtain ⟨ao, c, rfl⟩ := hr.form
  have HL : Hid (MayR l ∧ l.length ≤ 4096) := by obtain ⟨_, k, -⟩ := h; exact k
  have HM : Hid ((RmT m l).In A w) := h
  have HR : Hid (Row rRw B w (.slice ao l.length c) l) := hr
  obtain ⟨q1, q2, W1, W2, hm1, hm2, HS0, HT0, HB0⟩ : ∃ (q1 q2 : Nat) (W1 W2 : World), (Instr.makeSlice 47 (.int .i64 512) (.int .i64 512)).run Try.prog w = .ok (.slice (some ⟨q1, 0, none⟩) 512 512) W1 ∧ (Instr.makeSlice 47 (.int .i64 256) (.int .i64 256)).run Try.prog W1 = .ok (.slice (some ⟨q2, 0, none⟩) 256 256) W2 ∧
      Hid (Row rNm w.heap.size W2 (.slice (some ⟨q1, 0, none⟩) 512 512) (seenL 512 tF l 0)) ∧ Hid (Row rNm w.heap.size W2 (.slice (some ⟨q2, 0, none⟩) 256 256) (seenL 256 tS l 0) ∧ q1 ≠ q2) ∧ Hid (Below w.heap.size w W2) := by
    obtain ⟨cs1, hm1, hr1⟩ := run_makeR rNm.kin rNm.zero w 512 (by decide) (by decide)
    obtain ⟨cs2, hm2, hr2⟩ := run_makeR rNm.kin rNm.zero (w.alloc (.cells cs1 rNm.t)) 256 (by decide) (by decide)
    refine ⟨_, _, _, _, hm1, hm2, ?_, ⟨?_, ?_⟩, (new_below _ _).trans ((new_below _ _).mono (by simp))⟩
    · show Row _ _ _ _ _
      rw [seen_zero]
      exact hr1.below (new_below _ _)
    · rw [seen_zero]
      exact hr2.lower (by simp)
    · rw [heap_alloc2_rWh]
      omega
  have hl9 : l.length ≤ 9223372036854775807 := by have := HL.out.2; omega
  clear h hr
  go_enter Try.func17, Try.ntmps17
  go_wp2
  clear hm1 hm2
  go_loopw [7] (fun iv wr => ∃ k : Nat, k ≤ l.length ∧ iv = .int .i64 k ∧ Hid (Row rNm w.heap.size wr (.slice (some ⟨q1, 0, none⟩) 512 512) (seenL 512 tF l k)) ∧ Hid (Row rNm w.heap.size wr (.slice (some ⟨q2, 0, none⟩) 256 256) (seenL 256 tS l k) ∧ q1 ≠ q2) ∧ Hid (Below w.heap.size w wr)) (fun iv _ => l.length - (intOf iv).toNat)
  case atStart => exact ⟨0, Nat.zero_le _, rfl, HS0, HT0, HB0⟩
  case round =>
    clear HS0 HT0 HB0
    obtain ⟨k, hk, rfl, HS, HT, HB⟩ := hrel
    by_cases hkl : k < l.length
    · have hki : (k : Int) < (l.length : Int) := by omega
      have hk0 : (0 : Int) ≤ (k : Int) := by omega
      obtain ⟨g, rfl, -, -, hgl, -, -, hat⟩ := HR.out.at hkl
      obtain ⟨y0, y1, y2⟩ := rRw.at (hat.same (HB.out.block g hgl))
      simp only [show rRw.n = 3 from rfl, show rRw.zero = zR from rfl] at y0 y1 y2
      have hmem : l.getD k zR ∈ l := by rw [List.getD_eq_getElem?_getD, List.getElem?_eq_getElem hkl]; exact List.getElem_mem hkl
      have hmay := HL.out.1.2 _ hmem
      unfold Rw.may at hmay
      obtain ⟨fn, hfn⟩ : ∃ fn : Nat, (l.getD k zR).f = (fn : Int) := ⟨(l.getD k zR).f.toNat, by omega⟩
      obtain ⟨sn, hsn⟩ : ∃ sn : Nat, (l.getD k zR).s = (sn : Int) := ⟨(l.getD k zR).s.toNat, by omega⟩
      have hf5 : fn < 512 := by omega
      have hs2 : sn < 256 := by omega
      have hn1 := seen_next (n := 512) (t := tF) hkl hf5 (fun i hi => by unfold tF; rw [hfn, beq_iff_eq]; omega)
      have hn2 := seen_next (n := 256) (t := tS) hkl hs2 (fun i hi => by unfold tS; rw [hsn, beq_iff_eq]; omega)
      obtain ⟨g1, e1, -, hq1, -, -, -, hat1⟩ := HS.out.at (k := fn) (by rw [seen_len]; exact hf5)
      obtain ⟨g2, e2, -, hq2, -, -, -, hat2⟩ := HT.out.1.at (k := sn) (by rw [seen_len]; exact hs2)
      cases e1
      cases e2
      have z1 := rNm.at hat1
      have z2 := rNm.at hat2
      simp only [show rNm.n = 1 from rfl, show Rec.zero rNm = (0 : Int) from rfl, Nat.mul_one] at z1 z2
      rw [seen_get hf5] at z1
      rw [seen_get hs2] at z2
      have hc1 : cntR (tF fn) l k ≤ 4096 := Nat.le_trans (by unfold cntR; exact Nat.le_trans (List.length_filter_le _ _) (by rw [List.length_take]; omega)) HL.out.2
      have hc2 : cntR (tS sn) l k ≤ 4096 := Nat.le_trans (by unfold cntR; exact Nat.le_trans (List.length_filter_le _ _) (by rw [List.length_take]; omega)) HL.out.2
      have f1 := HS.out.frozen fn
      have f2 := HT.out.1.frozen sn
      have hne1 : g ≠ q1 := by omega
      have hne2 : g ≠ q2 := by omega
      have hne3 := HT.out.2
      obtain ⟨W3, hW3⟩ : ∃ W3, (wr.setCell ⟨q1, fn, none⟩ (.int .i64 ((cntR (tF fn) l k : Int) + 1))).setCell ⟨q2, sn, none⟩ (.int .i64 ((cntR (tS sn) l k : Int) + 1)) = W3 := ⟨_, rfl⟩
      have hp1 := HS.out.put1 fn 0 (.int .i64 ((cntR (tF fn) l k : Int) + 1)) ((cntR (tF fn) l k : Int) + 1) (by rw [seen_len]; exact hf5) (by decide) rfl
      rw [hn1] at hp1
      simp only [show rNm.n = 1 from rfl, Nat.mul_one, Nat.add_zero] at hp1
      have hp2 := (HT.out.1.same (fun j e => heap_setCell_other wr ⟨q1, fn, none⟩ j (.int .i64 ((cntR (tF fn) l k : Int) + 1)) (fun e2 => hne3 (by simp [Value.ownBlock] at e; rw [e, e2])))).put1 sn 0 (.int .i64 ((cntR (tS sn) l k : Int) + 1)) ((cntR (tS sn) l k : Int) + 1) (by rw [seen_len]; exact hs2) (by decide) rfl
      rw [hn2] at hp2
      simp only [show rNm.n = 1 from rfl, Nat.mul_one, Nat.add_zero] at hp2
      have hp3 := hp1.same (fun j e => heap_setCell_other (wr.setCell ⟨q1, fn, none⟩ (.int .i64 ((cntR (tF fn) l k : Int) + 1))) ⟨q2, sn, none⟩ j (.int .i64 ((cntR (tS sn) l k : Int) + 1)) (fun e2 => hne3 (by simp [Value.ownBlock] at e; rw [e, e2])))
      have hb3 := (HB.out.setCell (p := ⟨q1, fn, none⟩) hq1 (.int .i64 ((cntR (tF fn) l k : Int) + 1))).setCell (p := ⟨q2, sn, none⟩) hq2 (.int .i64 ((cntR (tS sn) l k : Int) + 1))
      rw [hW3] at hp2 hp3 hb3
      have HB3 : Hid (Below w.heap.size w W3) := hb3
      have HS3 : Hid (Row rNm w.heap.size W3 (.slice (some ⟨q1, 0, none⟩) 512 512) (seenL 512 tF l (k + 1))) := hp3
      have HT3 : Hid (Row rNm w.heap.size W3 (.slice (some ⟨q2, 0, none⟩) 256 256) (seenL 256 tS l (k + 1)) ∧ q1 ≠ q2) := ⟨hp2, hne3⟩
      have hfr : frF l (l.getD k zR).s (l.getD k zR).p = some (l.getD k zR).f := (fr_iff HL.out.1.1).2 hmem
      have hx0 : okI (l.getD k zR).s ∧ okI (l.getD k zR).p := ⟨⟨by omega, by omega⟩, ⟨by omega, by omega⟩⟩
      rw [hfn] at y2 hfr
      rw [hsn] at y0 hfr hx0
      have HY : Hid (∀ w', Below w.heap.size w w' → w'.cell? ⟨g, k * 3, none⟩ = some (.int .i64 (sn : Int)) ∧ w'.cell? ⟨g, k * 3 + 1, none⟩ = some (.int .i64 (l.getD k zR).p) ∧ w'.cell? ⟨g, k * 3 + 2, none⟩ = some (.int .i64 (fn : Int))) := fun w' hb' => by
        obtain ⟨a0, a1, a2⟩ := rRw.at (hat.same (hb'.block g hgl))
        simp only [show rRw.n = 3 from rfl, show rRw.zero = zR from rfl] at a0 a1 a2
        rw [hsn] at a0
        rw [hfn] at a2
        exact ⟨a0, a1, a2⟩
      have hc : Hid (∀ W', Below W3.heap.size W3 W' → Calls Try.prog 21 #[.pointer (some ⟨m, 0, none⟩), .agg #[.int .i64 (sn : Int), .int .i64 (l.getD k zR).p]] W' fun e w' => e = .returned (.tuple #[.int .i64 (fn : Int), .nilIface]) ∧ (w'.cell? ⟨g, k * 3, none⟩ = some (.int .i64 (sn : Int)) ∧ w'.cell? ⟨g, k * 3 + 1, none⟩ = some (.int .i64 (l.getD k zR).p)) ∧ w'.cell? ⟨g, k * 3 + 2, none⟩ = some (.int .i64 (fn : Int)) ∧ Hid (Below W3.heap.size W3 w')) := fun W' hb' => by
        have := frame_any (in_below HM.out (below_call' HB3.out hb')) hx0.1 hx0.2
        rw [hfr] at this
        refine this.mono ?_
        rintro e w' ⟨rfl, hb5⟩
        obtain ⟨a0, a1, a2⟩ := HY.out w' (below_call' HB3.out (below_call' hb' hb5.out))
        exact ⟨rfl, ⟨a0, a1⟩, a2, below_call' hb' hb5.out⟩
      clear hn1 hn2 hp1 hp2 hp3 hb3 hfr hx0 hat hat1 hat2 hmay hmem hfn hsn
      generalize (l.getD k zR).p = xp at *
      go_wp2
      obtain ⟨x0, x1, x2⟩ := HY.out W3 HB3.out
      clear hW3 z1 z2 f1 f2 hne1 hne2 hne3 hq1 hq2 y0 y1 y2 hc1 hc2 HS HT HB hf5 hs2 HY
      go_region_held3 (fun w' => w'.cell? ⟨g, k * 3, none⟩ = some (.int .i64 (sn : Int)) ∧ w'.cell? ⟨g, k * 3 + 1, none⟩ = some (.int .i64 xp)) (go_keep) (first | (go_at_call 21; refine (hc.out _ ?q1).mono ?_; (case q1 => first | exact Below.refl _ _ | exact (Below.refl _ _).drew); rintro e w4 ⟨rfl, ⟨x0, x1⟩, x2, HB4⟩))
      go_wp2
      go_roundw
      case rel => exact ⟨k + 1, hkl, by go_num, HS3.out.below HB4.out, ⟨HT3.out.1.below HB4.out, HT3.out.2⟩, below_call' HB3.out HB4.out⟩
      case measure => simp only [intOf]; omega
    · obtain rfl : k = l.length := by omega
      have hc4 : Hid (∀ W', Below w.heap.size w W' → Calls Try.prog 18 #[.pointer (some ⟨m, 0, none⟩)] W' (RowP rNm W' (framesI l))) := fun W' hb' => frames_any (in_below HM.out hb')
      have hc5 := hc4.out wr HB.out
      go_wp2_with fail
      refine hc5.mono ?_
      rintro e w5 ⟨a5, c5, rfl, hbec5⟩
      obtain ⟨F5, -, HF5, -⟩ := hbec5.out
      have HFR : Hid (Row rNm 0 w5 (.slice a5 (framesI l).length c5) (framesI l)) := HF5.2
      have HB5 : Hid (Below wr.heap.size wr w5) := hbec5.out.frame
      have HW5 : Hid (Below w.heap.size w w5) := below_call' HB.out HB5.out
      have HSC : Hid (∀ W', Below w5.heap.size w5 W' → ∀ j, j < 512 → W'.cell? ⟨q1, j, none⟩ = some (.int .i64 ((ofR l j).length : Nat)) ∧ q1 < W'.heap.size) := fun W' hb' j hj => by
        obtain ⟨g1, e1, -, hq1, hq1l, -, -, hat1⟩ := ((HS.out.below HB5.out).below hb').at (k := j) (by rw [seen_len]; exact hj)
        cases e1
        have z1 := rNm.at hat1
        simp only [show rNm.n = 1 from rfl, show Rec.zero rNm = (0 : Int) from rfl, Nat.mul_one] at z1
        rw [seen_get hj, cntF_all] at z1
        exact ⟨z1, hq1l⟩
      have HTC : Hid (∀ W', Below w5.heap.size w5 W' → ∀ j, j < 256 → W'.cell? ⟨q2, j, none⟩ = some (.int .i64 ((pagesR l j).length : Nat)) ∧ q2 < W'.heap.size) := fun W' hb' j hj => by
        obtain ⟨g1, e1, -, hq1, hq1l, -, -, hat1⟩ := ((HT.out.1.below HB5.out).below hb').at (k := j) (by rw [seen_len]; exact hj)
        cases e1
        have z1 := rNm.at hat1
        simp only [show rNm.n = 1 from rfl, show Rec.zero rNm = (0 : Int) from rfl, Nat.mul_one] at z1
        rw [seen_get hj, cntS_all] at z1
        exact ⟨z1, hq1l⟩
      have HLC : Hid (∀ W', Below w5.heap.size w5 W' → ∀ j, j < l.length → ∃ g, ao = some ⟨g, 0, none⟩ ∧ g < W'.heap.size ∧ W'.cell? ⟨g, j * 3, none⟩ = some (.int .i64 (l.getD j zR).s) ∧ W'.cell? ⟨g, j * 3 + 1, none⟩ = some (.int .i64 (l.getD j zR).p) ∧ W'.cell? ⟨g, j * 3 + 2, none⟩ = some (.int .i64 (l.getD j zR).f)) := fun W' hb' j hj => by
        obtain ⟨g, e, -, -, hgl, -, -, hat⟩ := (HR.out.below (below_call' HW5.out hb')).at hj
        obtain ⟨y0, y1, y2⟩ := rRw.at hat
        exact ⟨g, e, hgl, y0, y1, y2⟩
      have hfl9 : (framesI l).length ≤ 512 := by
        unfold framesI framesR
        rw [List.length_map]
        exact Nat.le_trans (List.length_filter_le _ _) (by simp)
      clear hc4 hc5 hbec5 HF5 HS HT HB HB5 hk hkl HR
      go_wp2
      go_loopw [11, 12] (fun av iv wr => ∃ f : Nat, f ≤ 512 ∧ iv = .int .i64 f ∧ av = .int .i64 (atN l f : Nat) ∧ Hid (Below w5.heap.size w5 wr)) (fun _ iv _ => 512 - (intOf iv).toNat)
      case atStart => exact ⟨0, Nat.zero_le _, rfl, rfl, Below.refl _ _⟩
      case round =>
        obtain ⟨f, hf, rfl, rfl, HB⟩ := hrel
        by_cases hfl : f < 512
        · have hfi : (f : Int) < 512 := by omega
          have hf0 : (0 : Int) ≤ (f : Int) := by omega
          obtain ⟨z1, hq1⟩ := HSC.out wr HB.out f hfl
          by_cases hp : pF l f = true
          · have hn1 := pf_iff.1 hp
            have hn2 : ¬ (((ofR l f).length : Nat) : Int) = 0 := by omega
            have hn3 : ((((ofR l f).length : Nat) : Int) == 0) = false := by simpa using hn1
            have hg := atn_get hfl hp
            have hgi : (framesI l)[atN l f]? = some (f : Int) := by
              unfold framesI
              rw [List.getElem?_map, hg]
              rfl
            have hal := (List.getElem?_eq_some_iff.1 hgi).1
            have hali : ((atN l f : Nat) : Int) < (((framesI l).length : Nat) : Int) := by omega
            have ha0 : (0 : Int) ≤ ((atN l f : Nat) : Int) := by omega
            obtain ⟨g5, rfl, -, -, hg5, -, -, hat⟩ := (HFR.out.below HB.out).at hal
            have y0 := rNm.at hat
            simp only [show rNm.n = 1 from rfl, show Rec.zero rNm = (0 : Int) from rfl, Nat.mul_one] at y0
            rw [List.getD_eq_getElem?_getD, hgi, Option.getD_some] at y0
            have hof := of_any (in_below HM.out (below_call' HW5.out HB.out)) (f := (f : Int)) ⟨by omega, by omega⟩
            have HAN : Hid (atN l (f + 1) = atN l f + 1) := atn_yes hp
            have ha9 : atN l f ≤ 512 := by omega
            clear hn1 hg hgi hal hat hp
            generalize atN l f = an at *
            go_wp2_with fail
            refine hof.mono ?_
            rintro e w6 ⟨a6, c6, rfl, hbec6⟩
            obtain ⟨F6, -, HF6, -⟩ := hbec6.out
            have HOF : Hid (Row rWh 0 w6 (.slice a6 (ofR l f).length c6) (ofR l f)) := HF6.2
            have HB6 : Hid (Below w5.heap.size w5 w6) := below_call' HB.out hbec6.out.frame
            obtain ⟨z6, hq6⟩ := HSC.out w6 HB6.out f hfl
            have hct := fun n => count_any (in_below HM.out (below_drewN (below_call' HW5.out HB6.out) n)) (f := (f : Int)) ⟨by omega, by omega⟩
            clear hof hbec6 HF6 z1 hq1 y0 hg5
            go_wp2
            go_quiet ((go_at_call 20; exact Calls.quiet_of_same (hct _)))
            have HB7 : Hid (Below w6.heap.size w6 (w6.drewN nq)) := below_drewN (Below.refl _ _) nq
            generalize w6.drewN nq = w7 at *
            clear hct z6
            go_wp2
            go_loopw [14, 15] (fun kv iv wr => ∃ i : Nat, i ≤ l.length ∧ iv = .int .i64 i ∧ kv = .int .i64 (cntR (tF f) l i : Nat) ∧ Hid (Below w6.heap.size w6 wr)) (fun _ iv _ => l.length - (intOf iv).toNat)
            case atStart => exact ⟨0, Nat.zero_le _, rfl, by rw [cnt_zero]; rfl, HB7⟩
            case round =>
              clear HB
              obtain ⟨i, hi, rfl, rfl, HB⟩ := hrel
              by_cases hil : i < l.length
              · have hii : (i : Int) < (l.length : Int) := by omega
                have hi0 : (0 : Int) ≤ (i : Int) := by omega
                obtain ⟨g, rfl, hgl, y0, y1, y2⟩ := HLC.out wr (below_call' HB6.out HB.out) i hil
                by_cases hxf : (l.getD i zR).f = (f : Int)
                · obtain ⟨b1, b2, b3⟩ := cntF_get hil hxf
                  obtain ⟨g8, rfl, -, -, hg8, -, -, hat⟩ := (HOF.out.below HB.out).at b1
                  obtain ⟨x0, x1⟩ := rWh.at hat
                  simp only [show rWh.n = 2 from rfl, show Rec.zero rWh = zR from rfl] at x0 x1
                  rw [b2] at x0 x1
                  rw [hxf] at y2
                  have hbi : ((cntR (tF f) l i : Nat) : Int) < (((ofR l f).length : Nat) : Int) := by omega
                  have hb0 : (0 : Int) ≤ ((cntR (tF f) l i : Nat) : Int) := by omega
                  have hb9 : cntR (tF f) l i ≤ 9223372036854775806 := by
                    have := of_len l f
                    have := HL.out.2
                    omega
                  have hq := fun w => neq_wh0 (l.getD i zR).s (l.getD i zR).p w
                  have HCN : Hid (cntR (tF f) l (i + 1) = cntR (tF f) l i + 1) := b3
                  clear b1 b2 b3 hat hxf
                  generalize l.getD i zR = x at *
                  generalize cntR (tF f) l i = ci at *
                  go_wp2
                  go_quiet (fail)
                  go_wp2
                  go_roundw
                  case rel => exact ⟨i + 1, hil, by go_num, by rw [HCN.out]; go_num, below_drewN HB.out _⟩
                  case measure => simp only [intOf]; omega
                · have hxb : ((l.getD i zR).f == (f : Int)) = false := by simpa using hxf
                  have HCN : Hid (cntR (tF f) l (i + 1) = cntR (tF f) l i) := cntF_no hil hxf
                  clear hxf
                  generalize l.getD i zR = x at *
                  generalize cntR (tF f) l i = ci at *
                  go_wp2
                  go_roundw
                  case rel => exact ⟨i + 1, hil, by go_num, by rw [HCN.out], HB⟩
                  case measure => simp only [intOf]; omega
              · obtain rfl : i = l.length := by omega
                go_wp2
                go_roundw
                case rel => exact ⟨f + 1, hfl, by go_num, by rw [HAN.out]; go_num, below_call' HB6.out HB.out⟩
                case measure => simp only [intOf]; omega
          · have hn1 : (ofR l f).length = 0 := by
              apply Classical.byContradiction
              exact fun h => hp (pf_iff.2 h)
            rw [hn1] at z1
            have HAN : Hid (atN l (f + 1) = atN l f) := atn_no hp
            clear hn1 hp
            generalize atN l f = an at *
            go_wp2
            go_roundw
            case rel => exact ⟨f + 1, hfl, by go_num, by rw [HAN.out], HB⟩
            case measure => simp only [intOf]; omega
        · obtain rfl : f = 512 := by omega
          have hat : atN l 512 = (framesI l).length := by unfold framesI; rw [List.length_map]; rfl
          have hof := of_any (in_below HM.out (below_call' HW5.out HB.out)) (f := -1) ⟨by omega, by omega⟩
          rw [show ofR l (-1) = [] from List.filter_eq_nil_iff.2 fun x hx => by
            have := HL.out.1.2 x hx
            unfold Rw.may at this
            simp only [beq_iff_eq]
            omega] at hof
          rw [hat]
          clear hat hf hfl hfl9
          go_wp2_with fail
          refine hof.mono ?_
          rintro e w6 ⟨a6, c6, rfl, hbec6⟩
          have HB6 : Hid (Below w5.heap.size w5 w6) := below_call' HB.out hbec6.out.frame
          have hct := count_any (in_below HM.out (below_call' HW5.out HB6.out)) (f := 600) ⟨by omega, by omega⟩
          rw [show ofR l 600 = [] from List.filter_eq_nil_iff.2 fun x hx => by
            have := HL.out.1.2 x hx
            unfold Rw.may at this
            simp only [beq_iff_eq]
            omega] at hct
          clear hof hbec6
          rw [List.length_nil] at hct ⊢
          go_wp2_with fail
          refine hct.mono ?_
          rintro e w7 ⟨rfl, hw⟩
          obtain rfl := hw.symm
          clear hw hct
          go_wp2
          go_loopw [16] (fun iv wr => ∃ s : Nat, s ≤ 256 ∧ iv = .int .i64 s ∧ Hid (Below w5.heap.size w5 wr)) (fun iv _ => 256 - (intOf iv).toNat)
          case atStart => exact ⟨0, Nat.zero_le _, rfl, HB6⟩
          case round =>
            clear HB HB6
            obtain ⟨s, hs, rfl, HB⟩ := hrel
            by_cases hsl : s < 256
            · have hsi : (s : Int) < 256 := by omega
              have hs0 : (0 : Int) ≤ (s : Int) := by omega
              obtain ⟨z1, hq1⟩ := HTC.out wr HB.out s hsl
              by_cases hp : (pagesR l s).length = 0
              · rw [hp] at z1
                clear hp
                go_wp2
                go_roundw
                case rel => exact ⟨s + 1, hsl, by go_num, HB⟩
                case measure => simp only [intOf]; omega
              · have hn2 : ¬ (((pagesR l s).length : Nat) : Int) = 0 := by omega
                have hn3 : ((((pagesR l s).length : Nat) : Int) == 0) = false := by simpa using hp
                have hpg := pages_any (in_below HM.out (below_call' HW5.out HB.out)) (s := (s : Int)) ⟨by omega, by omega⟩
                clear hp
                go_wp2_with fail
                refine hpg.mono ?_
                rintro e w8 ⟨a8, c8, rfl, hbec8⟩
                obtain ⟨F8, -, HF8, -⟩ := hbec8.out
                have HPG : Hid (Row rMp 0 w8 (.slice a8 (pagesR l s).length c8) (pagesR l s)) := HF8.2
                have HB8 : Hid (Below w5.heap.size w5 w8) := below_call' HB.out hbec8.out.frame
                clear hpg hbec8 HF8 z1 hq1 hn2 hn3
                go_wp2
                go_loopw [18, 19] (fun kv iv wr => ∃ i : Nat, i ≤ l.length ∧ iv = .int .i64 i ∧ kv = .int .i64 (cntR (tS s) l i : Nat) ∧ Hid (Below w8.heap.size w8 wr)) (fun _ iv _ => l.length - (intOf iv).toNat)
                case atStart => exact ⟨0, Nat.zero_le _, rfl, by rw [cnt_zero]; rfl, Below.refl _ _⟩
                case round =>
                  clear HB
                  obtain ⟨i, hi, rfl, rfl, HB⟩ := hrel
                  by_cases hil : i < l.length
                  · have hii : (i : Int) < (l.length : Int) := by omega
                    have hi0 : (0 : Int) ≤ (i : Int) := by omega
                    obtain ⟨g, rfl, hgl, y0, y1, y2⟩ := HLC.out wr (below_call' HB8.out HB.out) i hil
                    by_cases hxs : (l.getD i zR).s = (s : Int)
                    · obtain ⟨b1, b2, b3⟩ := cntS_get hil hxs
                      obtain ⟨g8, rfl, -, -, hg8, -, -, hat⟩ := (HPG.out.below HB.out).at b1
                      obtain ⟨x0, x1⟩ := rMp.at hat
                      simp only [show rMp.n = 2 from rfl, show Rec.zero rMp = zR from rfl] at x0 x1
                      rw [b2] at x0 x1
                      rw [hxs] at y0
                      have hbi : ((cntR (tS s) l i : Nat) : Int) < (((pagesR l s).length : Nat) : Int) := by omega
                      have hbd : decide ((((pagesR l s).length : Nat) : Int) ≤ ((cntR (tS s) l i : Nat) : Int)) = false := decide_eq_false (by omega)
                      have hbe : decide ((pagesR l s).length ≤ cntR (tS s) l i) = false := decide_eq_false (by omega)
                      have hb0 : (0 : Int) ≤ ((cntR (tS s) l i : Nat) : Int) := by omega
                      have hb9 : cntR (tS s) l i ≤ 9223372036854775806 := by
                        have : (pagesR l s).length ≤ l.length := List.length_filter_le _ _
                        have := HL.out.2
                        omega
                      have hq := fun w => neq_mp0 (l.getD i zR).p (l.getD i zR).f w
                      have HCN : Hid (cntR (tS s) l (i + 1) = cntR (tS s) l i + 1) := b3
                      clear b1 b2 b3 hat hxs
                      generalize l.getD i zR = x at *
                      generalize cntR (tS s) l i = ci at *
                      go_wp2
                      go_quiet (fail)
                      go_wp2
                      go_roundw
                      case rel => exact ⟨i + 1, hil, by go_num, by rw [HCN.out]; go_num, below_drewN HB.out _⟩
                      case measure => simp only [intOf]; omega
                    · have hxb : ((l.getD i zR).s == (s : Int)) = false := by simpa using hxs
                      have HCN : Hid (cntR (tS s) l (i + 1) = cntR (tS s) l i) := cntS_no hil hxs
                      clear hxs
                      generalize l.getD i zR = x at *
                      generalize cntR (tS s) l i = ci at *
                      go_wp2
                      go_roundw
                      case rel => exact ⟨i + 1, hil, by go_num, by rw [HCN.out], HB⟩
                      case measure => simp only [intOf]; omega
                  · obtain rfl : i = l.length := by omega
                    rw [cntS_all]
                    go_wp2
                    go_roundw
                    case rel => exact ⟨s + 1, hsl, by go_num, below_call' HB8.out HB.out⟩
                    case measure => simp only [intOf]; omega
            · obtain rfl : s = 256 := by omega
              have hpg := pages_any (in_below HM.out (below_call' HW5.out HB.out)) (s := 0) ⟨by omega, by omega⟩
              rw [show pagesR l 0 = [] from List.filter_eq_nil_iff.2 fun x hx => by
                have := HL.out.1.2 x hx
                unfold Rw.may at this
                simp only [beq_iff_eq]
                omega] at hpg
              go_wp2_with fail
              refine hpg.mono ?_
              rintro e w8 ⟨a8, c8, rfl, hbec8⟩
              have HE : Hid (Below w.heap.size w w8) := below_call' (below_call' HW5.out HB.out) hbec8.out.frame
              clear hpg hbec8
              rw [List.length_nil]
              go_wp2
              go_ret
              exact ⟨rfl, HE⟩
end Go.Proofs.Ytdeaniigimmoaaa
/- What RmapPlays keeps: the map, the document's row, the deed. -/
namespace Go.Proofs.Ytdeaniigimmoaaa
open Go.RowKit

/-- Rows of which the first k are moved. -/
def mvP (l : List Rw) (a b : Int) (k : Nat) : List Rw := moveR (l.take k) a b ++ l.drop k
def hasP (l : List Rw) (b : Int) (k : Nat) : Bool := (l.take k).any fun x => x.f == b
section
variable {l : List Rw} {a b s p f : Int} {k : Nat}
theorem mvp_zero : mvP l a b 0 = l := by simp [mvP, moveR]
theorem mvp_all : mvP l a b l.length = moveR l a b := by simp [mvP]
theorem mvp_len : (mvP l a b k).length = l.length := by
  unfold mvP moveR
  rw [List.length_append, List.length_map, List.length_take, List.length_drop]
  omega
theorem mvp_split (hk : k < l.length) : mvP l a b k = moveR (l.take k) a b ++ (l.getD k zR :: l.drop (k + 1)) := by
  unfold mvP
  rw [drop_getD hk]
theorem mvp_mlen (hk : k < l.length) : (moveR (l.take k) a b).length = k := by
  unfold moveR
  rw [List.length_map, List.length_take]
  omega
theorem mvp_at (hk : k < l.length) : (mvP l a b k).getD k zR = l.getD k zR := by
  rw [mvp_split hk, List.getD_eq_getElem?_getD, List.getElem?_append_right (by rw [mvp_mlen hk]; exact Nat.le_refl _), mvp_mlen hk, Nat.sub_self]
  rfl
theorem mvp_take (hk : k < l.length) : moveR (l.take (k + 1)) a b = moveR (l.take k) a b ++ [if (l.getD k zR).f = a then { l.getD k zR with f := b } else l.getD k zR] := by
  unfold moveR
  rw [List.take_add_one, List.getElem?_eq_getElem hk, List.map_append, List.getD_eq_getElem?_getD, List.getElem?_eq_getElem hk]
  rfl
theorem mvp_yes (hk : k < l.length) (h : (l.getD k zR).f = a) : (mvP l a b k).set k { l.getD k zR with f := b } = mvP l a b (k + 1) := by
  rw [mvp_split hk, List.set_append_right _ _ (by rw [mvp_mlen hk]; exact Nat.le_refl _), mvp_mlen hk, Nat.sub_self]
  unfold mvP
  rw [mvp_take hk, if_pos h, List.append_assoc]
  rfl
theorem mvp_no (hk : k < l.length) (h : ¬ (l.getD k zR).f = a) : mvP l a b k = mvP l a b (k + 1) := by
  rw [mvp_split hk]
  unfold mvP
  rw [mvp_take hk, if_neg h, List.append_assoc]
  rfl
theorem hasp_next (hk : k < l.length) : hasP l b (k + 1) = (hasP l b k || ((l.getD k zR).f == b)) := by
  unfold hasP
  rw [List.take_add_one, List.getElem?_eq_getElem hk, List.any_append, List.getD_eq_getElem?_getD, List.getElem?_eq_getElem hk]
  simp
theorem hasp_all : hasP l b l.length = true ↔ ofR l b ≠ [] := by
  unfold hasP ofR
  rw [List.take_length, List.any_eq_true, Ne, List.filter_eq_nil_iff]
  constructor
  · rintro ⟨x, h1, h2⟩ h3
    exact h3 x h1 h2
  · intro h
    apply Classical.byContradiction
    intro h2
    exact h fun x hx hxf => h2 ⟨x, hx, hxf⟩
theorem hasp_no : hasP l b l.length = false ↔ ofR l b = [] := by
  rw [← Bool.not_eq_true, hasp_all]
  exact Classical.not_not
theorem fnd_at (hl : RisR l) (hk : k < l.length) (h1 : (l.getD k zR).s = s) (h2 : (l.getD k zR).p = p) : atR l s p = some (l.getD k zR) := by
  have hm : l.getD k zR ∈ l := by rw [List.getD_eq_getElem?_getD, List.getElem?_eq_getElem hk]; exact List.getElem_mem hk
  have := at_mem hl hm
  rwa [h1, h2] at this
theorem fnd_drop (hl : RisR l) (hk : k < l.length) (h1 : (l.getD k zR).s = s) (h2 : (l.getD k zR).p = p) : l.take k ++ l.drop (k + 1) = dropR l s p := by
  have e : l.getD k zR = l[k] := by rw [List.getD_eq_getElem?_getD, List.getElem?_eq_getElem hk]; rfl
  rw [e] at h1 h2
  rw [drop_at hl hk, h1, h2]
theorem dropR_none (h : atR l s p = none) : dropR l s p = l := List.filter_eq_self.2 fun x hx => by
  have := at_none h hx
  simp only [Bool.not_eq_true', Bool.and_eq_false_iff, beq_eq_false_iff_ne]
  by_cases k : x.s = s
  · exact Or.inr fun k2 => this ⟨k, k2⟩
  · exact Or.inl k
theorem dropR_len : (dropR l s p).length ≤ l.length := List.length_filter_le _ _
theorem move_len : (moveR l a b).length = l.length := by unfold moveR; rw [List.length_map]
theorem may_b : (mayFB f && mayPB s p) = true ↔ (Rw.mk s p f).may := by
  unfold mayFB mayPB Rw.may
  simp only [Bool.and_eq_true, decide_eq_true_eq]
  omega
end

/-- The map tells l, the row l0; a deed lies in db. -/
abbrev PlT (m : Nat) (l : List Rw) (v : Value) (l0 : List Rw) (db : Nat) (d : QDd) : Th := (RmT m l).and ((Th.row rRw v l0).and (.box db 30 d.arr))
def PlS (w W : World) (m : Nat) (l : List Rw) (v : Value) (l0 : List Rw) (db : Nat) (d : QDd) : Prop := Bec (fun _ => False) w (PlT m l v l0 db d) W
def PlR (w W : World) (m : Nat) (l : List Rw) (v : Value) : Prop := Bec (fun _ => False) w ((RmT m l).and (.row rRw v l)) W
section
variable {w W W' : World} {m db g n c i : Nat} {l l' l0 l1 : List Rw} {v v' : Value} {d : QDd} {code : Int}
theorem PlR.start (h : Bec (fun _ => False) w (RmT m []) W) : PlR w W m [] (.slice none 0 0) :=
  h.imp fun {_ _} k => and_comm _ _ (nil_row rRw _ k)
theorem PlR.deed (h : PlR w W m l v) (d : QDd) : PlS w (W.alloc (.cells d.arr 30)) m l v l W.heap.size d :=
  (Bec.new h (box_new W _ _)).imp fun {_ _} k => and_assoc _ _ _ (and_comm _ _ k)
theorem PlR.frame (h : PlR w W m l v) : Below w.heap.size w W := Bec.frame h
theorem PlR.may (h : PlR w W m l v) : MayR l ∧ l.length ≤ 4096 := Bec.may h
theorem PlR.row (h : PlR w W m l v) : Row rRw 0 W v l := by
  obtain ⟨_, k, -⟩ := (Bec.right h).next
  exact k.2
theorem PlR.step (h : PlR w W m l v) (hb : Below W.heap.size W W') : PlR w W' m l v := Bec.below h hb
theorem PlR.same (h : PlR w W m l v) : Calls Try.prog 17 #[.pointer (some ⟨m, 0, none⟩), v] W fun e W' => e = .returned (.bool true) ∧ Hid (PlR w W' m l v) := by
  obtain ⟨A, k⟩ := Bec.rmt h
  exact (same_any k h.row).mono fun e W' q => ⟨q.1, h.step q.2.out⟩
theorem PlS.may (h : PlS w W m l v l0 db d) : MayR l ∧ l.length ≤ 4096 := Bec.may h
theorem PlS.laid (h : PlS w W m l v l0 db d) : Laid W db 30 d.arr := by
  obtain ⟨_, k, -⟩ := (Bec.right (Bec.right h)).next
  exact k.2
theorem PlS.row (h : PlS w W m l v l0 db d) : Row rRw 0 W v l0 := by
  obtain ⟨_, k, -⟩ := (Bec.left (Bec.right h)).next
  exact k.2
theorem PlS.step (h : PlS w W m l v l0 db d) (hb : Below W.heap.size W W') : PlS w W' m l v l0 db d := Bec.below h hb
theorem PlS.done (h : PlS w W m l v l db d) : PlR w W m l v := (Bec.imp h (and_assoc' _ _ _)).left
theorem PlS.news (h : PlS w W m l v l0 db d) (k : Bec (fun _ => False) W (.row rRw v' l1) W') : PlS w W' m l v' l1 db d :=
  ((Bec.imp h (and_left _ _ _)).right.new k).imp (and_left _ _ _)
theorem PlS.find (h : PlS w W m l v l0 db d) (hl : l0.length ≤ 4096) (s p : Int) : Calls Try.prog 9 #[v, .agg #[.int .i64 s, .int .i64 p]] W fun e W' => ∃ a, e = .returned (.int .i64 a) ∧ Hid (FndD l0 s p a ∧ PlS w W' m l v l0 db d) :=
  (find_any h.row hl s p).mono fun e W' k => by
    obtain ⟨a, e1, k2⟩ := k
    exact ⟨a, e1, k2.out.1, h.step k2.out.2⟩
theorem PlS.mays (h : PlS w W m l v l0 db d) (f s p : Int) : Calls Try.prog 12 #[.int .i64 f, .agg #[.int .i64 s, .int .i64 p]] W fun e W' => e = .returned (.bool (mayFB f && mayPB s p)) ∧ Hid (PlS w W' m l v l0 db d) :=
  (May_any f s p W).mono fun _ _ k => ⟨k.1, h.step k.2.out⟩
theorem PlS.put (h : PlS w W m l v l0 db d) (hl : l0.length ≤ 4096) (x : Rw) : Calls Try.prog 13 #[v, .agg #[.int .i64 x.s, .int .i64 x.p, .int .i64 x.f]] W fun e W' => ∃ v', e = .returned v' ∧ Hid (PlS w W' m l v' (putR l0 x) db d) :=
  (put_any h.row hl x).mono fun e W' k => by
    obtain ⟨ao, c, e1, k2⟩ := k
    exact ⟨_, e1, h.news k2.out⟩
theorem PlS.drop (h : PlS w W m l v l0 db d) (hl : l0.length ≤ 4096) {i : Nat} (hi : i < l0.length) : Calls Try.prog 15 #[v, .int .i64 i] W fun e W' => ∃ v', e = .returned v' ∧ Hid (PlS w W' m l v' (l0.take i ++ l0.drop (i + 1)) db d) :=
  (drop_any h.row hl hi).mono fun e W' k => by
    obtain ⟨ao, c, e1, k2⟩ := k
    exact ⟨_, e1, h.news k2.out⟩
theorem PlS.add (h : PlS w W m l v l0 db d) (hok : d.ok) (hlen : l.length < 4096) (hd : AddD l d.w.s d.w.p d.frame code l') : Calls Try.prog 11 #[.pointer (some ⟨m, 0, none⟩), .int .i64 d.frame, .agg #[.int .i64 d.w.s, .int .i64 d.w.p]] W fun e W' => e = .returned (errV code) ∧ Hid (PlS w W' m l' v l0 db d) :=
  Bec.addc h hok.2.2.2.1 hok.2.2.2.2 hok.2.1 hlen hd
theorem PlS.rem (h : PlS w W m l v l0 db d) (hok : d.ok) : Calls Try.prog 14 #[.pointer (some ⟨m, 0, none⟩), .agg #[.int .i64 d.w.s, .int .i64 d.w.p]] W fun e W' => e = .returned (frV (frF l d.w.s d.w.p)) ∧ Hid (PlS w W' m (dropR l d.w.s d.w.p) v l0 db d) :=
  Bec.remc h hok.2.2.2.1 hok.2.2.2.2
theorem PlS.mov (h : PlS w W m l v l0 db d) (hok : d.ok) (hd : MoveD l d.frame d.to_ code l') : Calls Try.prog 16 #[.pointer (some ⟨m, 0, none⟩), .int .i64 d.frame, .int .i64 d.to_] W fun e W' => e = .returned (errV code) ∧ Hid (PlS w W' m l' v l0 db d) :=
  Bec.movc h hok.2.1 hok.2.2.1 hd
/-- A row's frame stored. -/
theorem PlS.set (h : PlS w W m l (.slice (some ⟨g, 0, none⟩) n c) l0 db d) (hi : i < l0.length) (b : Int) : PlS w (W.setCell ⟨g, i * 3 + 2, none⟩ (.int .i64 b)) m l (.slice (some ⟨g, 0, none⟩) n c) (l0.set i { l0.getD i zR with f := b }) db d := by
  have h1 : Bec (fun _ => False) w ((Th.row rRw (.slice (some ⟨g, 0, none⟩) n c) l0).and ((RmT m l).and (.box db 30 d.arr))) W := Bec.imp h (and_left _ _ _)
  obtain ⟨A, k, cl⟩ := h1.open
  have k2 : Bec A W (Th.row rRw (.slice (some ⟨g, 0, none⟩) n c) (l0.set i { l0.getD i zR with f := b })) (W.setCell ⟨g, i * 3 + 2, none⟩ (.int .i64 b)) :=
    ⟨A, fun _ h => Or.inl h, ⟨k.1, k.2.put1 i 2 (.int .i64 b) { l0.getD i zR with f := b } hi (by decide) rfl⟩, (Keeps.set W g (i * 3 + 2) (.int .i64 b)).mono fun x _ e => (k.1 x).2 (by rw [e]; rfl)⟩
  exact (cl k2).imp (and_left _ _ _)
end
end Go.Proofs.Ytdeaniigimmoaaa
