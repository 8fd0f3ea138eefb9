/- WalkStays: the walk. -/
import Derived.Test.YteoblaopbhdneaaKWholeL
import Derived.Test.YteoblaopbhdneaaMSame
namespace Go.Proofs.Yteoblaopbhdneaa
open Go.RowKit

/-- An error's value: none, or a Code. -/
def ErrV (e : Value) : Prop := e = .nilIface ∨ ∃ c : Int, e = .iface 27 (.int .i64 c)

/-- One answer of Walk in all worlds that hold the same words. -/
theorem walk_all (n : Nat) (f : Nat → Nat) (hf : Words n f) (root page : Int) :
    ∃ (y : Fnd) (e : Value), ErrV e ∧ (e = .nilIface → ∃ r p : Nat, root = r ∧ page = p ∧ r < n ∧ p < 4096 ∧ walkF n f r p = some y) ∧ ∀ {B : Nat} {W : World} {b s : Nat} (_ : Mem B W b s n f), Calls Try.prog 13 #[.pointer (some ⟨b, 0, none⟩), .int .i64 root, .int .i64 page] W fun e' w' => e' = .returned (.tuple #[fv y, e]) ∧ Below W.heap.size W w' := by
  by_cases h : (0 ≤ root ∧ root < n) ∧ (0 ≤ page ∧ page ≤ 4095)
  · obtain ⟨⟨a1, a2⟩, b1, b2⟩ := h
    obtain ⟨r, rfl⟩ := Int.eq_ofNat_of_zero_le a1
    obtain ⟨p, rfl⟩ := Int.eq_ofNat_of_zero_le b1
    have hW := fun {B : Nat} {W : World} {b s : Nat} (M : Mem B W b s n f) => walk_yes M hf r p (by omega) (by omega)
    cases hx : walkF n f r p with
    | none =>
      rw [hx] at hW
      exact ⟨nilF, errF, Or.inr ⟨2, rfl⟩, fun h => by simp at h, fun M => hW M⟩
    | some y =>
      rw [hx] at hW
      exact ⟨y, .nilIface, Or.inl rfl, fun _ => ⟨r, p, rfl, rfl, by omega, by omega, hx⟩, fun M => hW M⟩
  · refine ⟨nilF, errA, Or.inr ⟨1, rfl⟩, fun h => by simp at h, fun M => walk_no M root page ?_⟩
    by_cases hr : 0 ≤ root ∧ root < n
    · exact Or.inr (pageB_no (by omega))
    · exact Or.inl (okF_no (by omega))

/-- A row of at least m Found at block g. -/
def FR (w : World) (g m : Nat) : Prop := ∃ cur : Array Value, w.heap[g]? = some (.cells cur 37 (0, 0)) ∧ m * 11 ≤ cur.size
theorem FR.set {w : World} {g m : Nat} (h : FR w g m) (j : Nat) (v : Value) : FR (w.setCell ⟨g, j, none⟩ v) g m := by
  obtain ⟨cur, h1, h2⟩ := h
  exact ⟨_, heap_setCell_same w g j cur _ _ h1, by simpa using h2⟩
theorem FR.cell {w : World} {g m : Nat} (h : FR w g m) (j : Nat) (hj : j < m * 11) : ∃ u, w.cell? ⟨g, j, none⟩ = some u := by
  obtain ⟨cur, h1, h2⟩ := h
  rw [cell_of_row w g j cur _ _ h1]
  exact ⟨_, Array.getElem?_eq_getElem (by omega)⟩
theorem FR.frozen {w : World} {g m : Nat} (h : FR w g m) (j : Nat) : w.frozen? ⟨g, j, none⟩ = false := by
  obtain ⟨cur, h1, h2⟩ := h
  simp [World.frozen?, h1]
def WAllPost (W : World) (m : Nat) (e : Value) (e' : Ending) (w' : World) : Prop := ∃ ao cap, e' = .returned (.tuple #[.slice ao m cap, e]) ∧ (m = 0 ∨ ∃ g, ao = some ⟨g, 0, none⟩ ∧ W.heap.size ≤ g ∧ FR w' g m) ∧ Below W.heap.size W w'

theorem whole_all (n : Nat) (f : Nat → Nat) (hf : Words n f) (root : Int) :
    ∃ (m : Nat) (e : Value), ErrV e ∧ m ≤ 4096 ∧ ∀ {B : Nat} {W : World} {b s : Nat} (_ : Mem B W b s n f), Calls Try.prog 16 #[.pointer (some ⟨b, 0, none⟩), .int .i64 root] W (WAllPost W m e) := by
  by_cases h : 0 ≤ root ∧ root < n
  · obtain ⟨a1, a2⟩ := h
    obtain ⟨r, rfl⟩ := Int.eq_ofNat_of_zero_le a1
    have hW := fun {B : Nat} {W : World} {b s : Nat} (M : Mem B W b s n f) => whole_yes M hf r (by omega)
    cases hg : gather (walkF n f r) 4096 with
    | none =>
      rw [hg] at hW
      refine ⟨0, errF, Or.inr ⟨2, rfl⟩, by omega, fun M => (hW M).mono ?_⟩
      rintro e w' ⟨he, hb⟩
      exact ⟨none, 0, he, Or.inl rfl, hb⟩
    | some L =>
      rw [hg] at hW
      refine ⟨L.length, .nilIface, Or.inl rfl, len_gather _ _ _ hg, fun M => (hW M).mono ?_⟩
      rintro e w' ⟨⟨v, rfl, own⟩, hb⟩
      rcases own.2 with ⟨rfl, h0⟩ | ⟨g, cap, cur, rfl, hb', hg', h1, h2, h3, ht⟩
      · exact ⟨none, 0, by rw [h0], Or.inl h0, hb⟩
      · exact ⟨_, cap, rfl, Or.inr ⟨g, rfl, hb', cur, hg', by rw [h3]; exact Nat.mul_le_mul_right _ h1⟩, hb⟩
  · refine ⟨0, errA, Or.inr ⟨1, rfl⟩, by omega, fun M => (whole_no M root (okF_no (by omega))).mono ?_⟩
    rintro e w' ⟨rfl, rfl⟩
    exact ⟨none, 0, rfl, Or.inl rfl, Below.refl _ _⟩

theorem grown_set11 (w : World) (s p0 p1 p2 p3 p4 p5 p6 p7 p8 p9 p10 : Nat) (v0 v1 v2 v3 v4 v5 v6 v7 v8 v9 v10 : Value) : w.grownBy (((((((((((w.setCell ⟨s, p0, none⟩ v0).setCell ⟨s, p1, none⟩ v1).setCell ⟨s, p2, none⟩ v2).setCell ⟨s, p3, none⟩ v3).setCell
    ⟨s, p4, none⟩ v4).setCell ⟨s, p5, none⟩ v5).setCell ⟨s, p6, none⟩ v6).setCell ⟨s, p7, none⟩ v7).setCell ⟨s, p8, none⟩ v8).setCell ⟨s, p9, none⟩ v9).setCell ⟨s, p10, none⟩ v10) (some s) :=
  grown_trans (grown_trans (grown_trans (grown_set8 _ _ _ _ _ _ _ _ _ _ _ _ _ _ _ _ _ _) (grown_set _ _ _ _)) (grown_set _ _ _ _)) (grown_set _ _ _ _)
theorem FR.set11 {w : World} {s m : Nat} (h : FR w s m) (p0 p1 p2 p3 p4 p5 p6 p7 p8 p9 p10 : Nat) (v0 v1 v2 v3 v4 v5 v6 v7 v8 v9 v10 : Value) : FR (((((((((((w.setCell ⟨s, p0, none⟩ v0).setCell ⟨s, p1, none⟩ v1).setCell ⟨s, p2, none⟩ v2).setCell ⟨s, p3, none⟩ v3).setCell
    ⟨s, p4, none⟩ v4).setCell ⟨s, p5, none⟩ v5).setCell ⟨s, p6, none⟩ v6).setCell ⟨s, p7, none⟩ v7).setCell ⟨s, p8, none⟩ v8).setCell ⟨s, p9, none⟩ v9).setCell ⟨s, p10, none⟩ v10) s m :=
  ((((((((((h.set _ _).set _ _).set _ _).set _ _).set _ _).set _ _).set _ _).set _ _).set _ _).set _ _).set _ _
theorem Mem.row_kept {B : Nat} {w w' : World} {b s n g m : Nat} {f : Nat → Nat} (h : Mem B w b s n f) (hr : FR w g m) (hg : w.grownBy w' (some g)) : Mem B w' b s n f := by
  obtain ⟨_, _, h1⟩ := h.ptr
  obtain ⟨_, h2, _⟩ := h.row
  obtain ⟨_, h3, _⟩ := hr
  exact h.kept hg (fun e => ne_of_tag h1 h3 (by decide) (by cases e; rfl)) (fun e => ne_of_tag h2 h3 (by decide) (by cases e; rfl))

set_option maxRecDepth 100000 in
set_option maxHeartbeats 4000000 in
theorem walk_walkStays (x : Int) (ao : Option Addr) (len cap : Nat) (D : Nat → Wrd) (root page : Int) (w : World) (hx : -9223372036854775808 ≤ x ∧ x ≤ 9223372036854775807) (_ : len ≤ maxLen) (hL : Lst Wrd.cells Wrd.ok 3 w ao len D)
    (_hr : -9223372036854775808 ≤ root ∧ root ≤ 9223372036854775807) (_hp : -9223372036854775808 ≤ page ∧ page ≤ 9223372036854775807) :
    Calls Try.prog 7 #[.int .i64 x, .slice ao len cap, .int .i64 root, .int .i64 page] w fun e w' => e = .returned (.bool true) ∧ Below w.heap.size w w' := by
  go_enter Try.func7, Try.ntmps7
  go_wp2_with fail
  refine (up_any _).mono ?_
  rintro e w1 ⟨rfl, L1⟩
  have hL1 := hL.below L1
  clear hL
  go_wp2_with fail
  refine (lay_any x ao len cap D _ hL1 hx).mono ?_
  rintro e w2 ⟨n, b, s, qr, cr, R, f, rfl, n1, n2, M2, F2, hf, hb⟩
  have L2 := below_call' L1 hb
  replace M2 := M2.base L1.size
  clear hb L1 hL1 F2
  obtain ⟨y, ev, hev, -, hW⟩ := walk_all n f hf root page
  obtain ⟨m, fv', hfv, hm, hA⟩ := whole_all n f hf root
  have he := eql_fnd y y
  rw [eqF_self] at he
  have hsame : sameB n f n f = true := (sameB_iff _ _ _ _).2 ⟨rfl, fun _ _ => rfl⟩
  unfold fv at hW he
  clear hf
  go_wp2_with fail
  refine (clone_any M2 n1 (by omega)).mono ?_
  rintro e w3 ⟨bc, sc, rfl, C3, hb⟩
  have M3 := M2.below hb
  replace C3 := C3.base L2.size
  have L3 := below_call' L2 hb
  clear hb M2 L2
  go_wp2_with fail
  refine (hW M3).mono ?_
  rintro e w4 ⟨rfl, hb⟩
  have M4 := M3.below hb
  have C4 := C3.below hb
  have L4 := below_call' L3 hb
  clear hb M3 C3 L3
  go_wp2_with fail
  have B5 : Below w4.heap.size w4 (w4.alloc (.cells (fcells y) 37)) := (Below.refl _ _).alloc (Nat.le_refl _) _
  have M5 := M4.below B5
  have C5 := C4.below B5
  have L5 := below_call' L4 B5
  have X5 := Laid.new w4 37 (fcells y)
  clear B5 M4 C4 L4
  unfold fcells at M5 C5 L5 X5
  refine (hA M5).mono ?_
  rintro e w5 ⟨a5, c5, rfl, hrow, hb⟩
  have M6 := M5.below hb
  have C6 := C5.below hb
  have L6 := below_call' L5 hb
  have X6 : Laid w5 w4.heap.size 37 (fcells y) := X5.below hb
  have hrow6 : m = 0 ∨ ∃ g, a5 = some ⟨g, 0, none⟩ ∧ w4.heap.size < g ∧ w.heap.size ≤ g ∧ FR w5 g m := by
    rcases hrow with h | ⟨g, e, h1, h2⟩
    · exact Or.inl h
    · exact Or.inr ⟨g, e, by simp at h1; omega, by have := L5.size; omega, h2⟩
  clear hb M5 C5 L5 X5 hrow
  go_wp2
  go_loopw [17] (fun i W => ∃ k : Nat, k ≤ m ∧ i = .int .i64 k ∧ Mem w.heap.size W b s n f ∧ Mem w.heap.size W bc sc n f ∧ Laid W w4.heap.size 37 (fcells y) ∧ (m = 0 ∨ ∃ g, a5 = some ⟨g, 0, none⟩ ∧ w4.heap.size < g ∧ w.heap.size ≤ g ∧ FR W g m) ∧ Below w.heap.size w W) (fun i _ => m - (intOf i).toNat)
  case atStart => exact ⟨0, Nat.zero_le _, rfl, M6, C6, X6, hrow6, L6⟩
  case round =>
    obtain ⟨k, hk, rfl, M, C, X, hrow, L⟩ := hrel
    clear M6 C6 X6 hrow6 L6
    by_cases hlt : k < m
    · obtain ⟨g, rfl, g1, g2, G⟩ : ∃ g, a5 = some ⟨g, 0, none⟩ ∧ w4.heap.size < g ∧ w.heap.size ≤ g ∧ FR wr g m := by
        rcases hrow with h | h
        · omega
        · exact h
      obtain ⟨u0, q0⟩ := G.cell (k * 11) (by omega)
      obtain ⟨u1, q1⟩ := G.cell (k * 11 + 1) (by omega)
      obtain ⟨u2, q2⟩ := G.cell (k * 11 + 2) (by omega)
      obtain ⟨u3, q3⟩ := G.cell (k * 11 + 3) (by omega)
      obtain ⟨u4, q4⟩ := G.cell (k * 11 + 4) (by omega)
      obtain ⟨u5, q5⟩ := G.cell (k * 11 + 5) (by omega)
      obtain ⟨u6, q6⟩ := G.cell (k * 11 + 6) (by omega)
      obtain ⟨u7, q7⟩ := G.cell (k * 11 + 7) (by omega)
      obtain ⟨z8, q8⟩ := G.cell (k * 11 + 8) (by omega)
      obtain ⟨z9, q9⟩ := G.cell (k * 11 + 9) (by omega)
      obtain ⟨z10, q10⟩ := G.cell (k * 11 + 10) (by omega)
      have hz := G.frozen
      have HH : Hid _ := And.intro M (And.intro C (And.intro X (And.intro G L)))
      clear M C X G L hrow
      go_wp2
      obtain ⟨M, C, X, G, L⟩ := HH.out
      go_roundw
      case rel => exact ⟨k + 1, by omega, by go_num, M.row_kept G (grown_set11 _ _ _ _ _ _ _ _ _ _ _ _ _ _ _ _ _ _ _ _ _ _ _ _), C.row_kept G (grown_set11 _ _ _ _ _ _ _ _ _ _ _ _ _ _ _ _ _ _ _ _ _ _ _ _), X.kept (grown_set11 _ _ _ _ _ _ _ _ _ _ _ _ _ _ _ _ _ _ _ _ _ _ _ _) (fun e => by cases e; omega), Or.inr ⟨g, rfl, g1, g2, G.set11 _ _ _ _ _ _ _ _ _ _ _ _ _ _ _ _ _ _ _ _ _ _⟩, below_row L L.size (grown_set11 _ _ _ _ _ _ _ _ _ _ _ _ _ _ _ _ _ _ _ _ _ _ _ _) g2⟩
      case measure => simp [intOf]; omega
    · obtain rfl : k = m := by omega
      clear hrow
      go_wp2_with fail
      refine (hW M).mono ?_
      rintro e w6 ⟨rfl, hb⟩
      have M6 := M.below hb
      have C6 := C.below hb
      have L6 := below_call' L hb
      have X6 := X.below hb
      clear hb M C L X hW
      go_wp2_with fail
      have B7 : Below w6.heap.size w6 (w6.alloc (.cells (fcells y) 37)) := (Below.refl _ _).alloc (Nat.le_refl _) _
      have M7 := M6.below B7
      have C7 := C6.below B7
      have L7 := below_call' L6 B7
      have X7 := X6.below B7
      have Y7 := Laid.new w6 37 (fcells y)
      clear B7 M6 C6 L6 X6
      unfold fcells at M7 C7 L7 X7 Y7
      refine (hA M7).mono ?_
      rintro e w8 ⟨a8, c8, rfl, -, hb⟩
      have M8 := M7.below hb
      have C8 := C7.below hb
      have L8 := below_call' L7 hb
      have X8 : Laid w8 w4.heap.size 37 (fcells y) := X7.below hb
      have Y8 : Laid w8 w6.heap.size 37 (fcells y) := Y7.below hb
      clear hb M7 C7 L7 X7 Y7 hA
      have hS := fun d => same_any (M8.drewN d) (C8.drewN d) (by omega)
      rw [hsame] at hS
      obtain ⟨x0, x1, x2, x3, x4, x5, x6, x7, x8, x9, x10⟩ := X8.found
      obtain ⟨y0, y1, y2, y3, y4, y5, y6, y7, y8, y9, y10⟩ := Y8.found
      clear M8 C8 X8 Y8 hsame
      rcases hev with rfl | ⟨c, rfl⟩
      all_goals
        rcases hfv with rfl | ⟨c', rfl⟩
        all_goals
          go_wp2_with fail
          go_quiet ((go_at_call 21; exact Calls.quiet_of (hS _)))
          go_wp2
          go_ret
          exact ⟨rfl, below_drewN L8 _⟩
end Go.Proofs.Yteoblaopbhdneaa
