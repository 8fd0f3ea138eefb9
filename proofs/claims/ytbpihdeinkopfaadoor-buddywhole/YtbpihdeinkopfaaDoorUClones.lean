/- BuddyClones, walked. -/
import Derived.Test.YtbpihdeinkopfaaDoorUOw
namespace Go.Proofs.YtbpihdeinkopfaaDoor
open Go.RowKit

theorem size_all {n : Nat} {L : List Bk} (ho : Okl n L) (h : ∀ x, cov L x ↔ x < n) : size L = n := by
  rw [size_cnt L n ho.good.sorted ho.top]
  exact cnt_all _ n fun x hx => (covB_iff _ _).2 ((h x).2 hx)
theorem size_same {n : Nat} {L M : List Bk} (h1 : Okl n L) (h2 : Okl n M) (h : ∀ x, cov L x ↔ cov M x) : L = M := h1.good.unique h2.good h
/-- A block of cells that may be written. -/
def Wr (w : World) (g m : Nat) : Prop := ∃ cur, w.heap[g]? = some (.cells cur 48 (0, 0)) ∧ cur.size = m
theorem Wr.rules {w : World} {g m : Nat} (h : Wr w g m) (j : Nat) (hj : j < m) : (∃ u, w.cell? ⟨g, j, none⟩ = some u) ∧ w.frozen? ⟨g, j, none⟩ = false := by
  obtain ⟨cur, h1, h2⟩ := h
  refine ⟨?_, frozen_of_row w g _ cur _ h1⟩
  rw [cell_of_row w g _ cur _ _ h1]
  exact ⟨_, Array.getElem?_eq_getElem (by omega)⟩
theorem Wr.lt {w : World} {g m : Nat} (h : Wr w g m) : g < w.heap.size := by
  obtain ⟨cur, h1, h2⟩ := h
  exact (Array.getElem?_eq_some_iff.1 h1).1
theorem Wr.set {w : World} {g m : Nat} (h : Wr w g m) (j : Nat) (u : Value) : Wr (w.setCell ⟨g, j, none⟩ u) g m := by
  obtain ⟨cur, h1, h2⟩ := h
  exact ⟨_, heap_setCell_same w g j cur _ u h1, by simpa using h2⟩

set_option maxRecDepth 100000 in
set_option maxHeartbeats 8000000 in
theorem walk_buddyClones (a0 a1 : Int) (w : World) (hT : Tab w) (b0 : -9223372036854775808 ≤ a0 ∧ a0 ≤ 9223372036854775807) (b1 : -9223372036854775808 ≤ a1 ∧ a1 ≤ 9223372036854775807) :
    Calls Tryd.prog 6 #[.int .i64 a0, .int .i64 a1] w fun e w' => e = .returned (.bool true) ∧ Below w.heap.size w w' := by
  have hU := up_any w hT
  have hP0 := fun w => pick_any a0 100 w b0.1 b0.2 (by decide) (by decide)
  have hP1 := fun w => pick_any a1 6 w b1.1 b1.2 (by decide) (by decide)
  have l0 := pickN_lt a0 100 (by decide)
  have l1 := pickN_lt a1 6 (by decide)
  obtain ⟨n, hn⟩ : ∃ n, n = 1 + pickN a0 100 := ⟨_, rfl⟩
  have hnz : (1 : Int) + (pickN a0 100 : Int) = (n : Int) := by omega
  have hn1 : 1 ≤ n := by omega
  have hn2 : n ≤ 100 := by omega
  generalize pickN a1 6 = o at *
  have HT : Hid (Tab w) := hT
  have hsz := size_all (new_okl (n := n) (by omega)) (new_cov (by omega))
  have ok0 := new_okl (n := n) (by omega)
  have hlen := ok0.len
  clear hT ok0 hn
  go_enter Tryd.func6, Tryd.ntmps6
  go_wp2_with fail
  refine hU.mono ?_
  rintro e w1 ⟨rfl, hb1⟩
  have hN := owNew (G := fun _ => False) HT.out hb1 (fun _ h => h.elim) n hn1 (by omega)
  generalize blkL 0 n = L at *
  clear hU
  go_wp2_with (go_at_call 12; refine (hP0 _).mono ?_; rintro e w2 ⟨rfl, hw⟩; obtain rfl := hw.symm; clear hw)
  refine hN.mono ?_
  rintro e w2 ⟨p, rfl, O2, -⟩
  have hC := O2.clone
  clear hN hb1
  go_wp2_with fail
  refine hC.mono ?_
  rintro e w3 ⟨q, rfl, ⟨u, S3⟩, hb3⟩
  have O3 := O2.more hb3
  have hF := O3.free
  clear hC
  go_wp2_with fail
  refine hF.mono ?_
  rintro e w4 ⟨vl, rfl, R4, hb4⟩
  have O4 := O3.more hb4
  have S4 := S3.below hb4
  obtain ⟨g, c, rfl, hwr, hg3, hlc, hcm⟩ : ∃ g c, vl = .slice (some ⟨g, 0, none⟩) L.length c ∧ Wr w4 g (c * 2) ∧ w3.heap.size ≤ g ∧ L.length ≤ c ∧ c ≤ maxLen := by
    rcases R4.cases with ⟨rfl, rfl⟩ | ⟨g, c, cur, rfl, h1, h2, h3, h4, h5, h6, _⟩
    · exfalso
      have : size [] = 0 := rfl
      omega
    · exact ⟨g, c, rfl, ⟨cur, h3, h6⟩, h1, h4, h5⟩
  have h23 : w2.heap.size ≤ w3.heap.size := hb3.size
  have h34 : w3.heap.size ≤ w4.heap.size := hb4.size
  have hw2 : w.heap.size ≤ w2.heap.size := O2.frame.size
  have hg4 := hwr.lt
  obtain ⟨G, hG⟩ : ∃ G : Nat → Prop, G = plus (plus (fun _ => False) w2 w3) w3 w4 := ⟨_, rfl⟩
  rw [← hG] at O4
  have HGg : Hid (G g ∧ w.heap.size ≤ g) := ⟨by rw [hG]; exact Or.inr ⟨hg3, hg4⟩, by omega⟩
  have HGq : Hid (∀ c, w2.heap.size ≤ c ∧ c < w3.heap.size → G c) := fun c hc => by rw [hG]; exact Or.inl (Or.inr hc)
  have HS : Hid (Ow w w4 p n L G ∧ Sto (fun c => w2.heap.size ≤ c ∧ c < w3.heap.size) w4 q n u L ∧ Wr w4 g (c * 2)) := ⟨O4, S4, hwr⟩
  clear O2 O3 O4 S3 S4 R4 hb3 hb4 hF hG hwr hcm
  go_wp2_with fail
  go_loopw [10] (fun iv W => ∃ k : Nat, k ≤ L.length ∧ iv = .int .i64 k ∧ Hid (Ow w W p n L G ∧ Sto (fun c => w2.heap.size ≤ c ∧ c < w3.heap.size) W q n u L ∧ Wr W g (c * 2))) (fun iv _ => L.length - (intOf iv).toNat)
  case atStart => exact ⟨0, Nat.zero_le _, rfl, HS⟩
  case round =>
    obtain ⟨k, hk, rfl, HI⟩ := hrel
    clear HS
    by_cases hlt : k < L.length
    · have hltz : (k : Int) < (L.length : Int) := by omega
      obtain ⟨I1, I2, I3⟩ := HI.out
      obtain ⟨⟨x0, r0⟩, f0⟩ := I3.rules (k * 2) (by omega)
      obtain ⟨⟨x1, r1⟩, f1⟩ := I3.rules (k * 2 + 1) (by omega)
      have hgl := I3.lt
      have HN : Hid (Ow w ((wr.setCell ⟨g, k * 2, none⟩ (.int .i64 (-1))).setCell ⟨g, k * 2 + 1, none⟩ (.int .i64 0)) p n L G ∧ Sto (fun c => w2.heap.size ≤ c ∧ c < w3.heap.size) ((wr.setCell ⟨g, k * 2, none⟩ (.int .i64 (-1))).setCell ⟨g, k * 2 + 1, none⟩ (.int .i64 0)) q n u L ∧ Wr ((wr.setCell ⟨g, k * 2, none⟩ (.int .i64 (-1))).setCell ⟨g, k * 2 + 1, none⟩ (.int .i64 0)) g (c * 2)) := by
        have kk : Keeps wr ((wr.setCell ⟨g, k * 2, none⟩ (.int .i64 (-1))).setCell ⟨g, k * 2 + 1, none⟩ (.int .i64 0)) (fun b => b = g) := (Keeps.set _ _ _ _).trans (Keeps.set _ _ _ _) fun _ _ h => h
        exact ⟨I1.other kk fun c _ e => by rw [e]; exact HGg.out, I2.keeps kk fun c hc e => by omega, (I3.set _ _).set _ _⟩
      clear I1 I2 I3 HI
      go_wp2
      go_roundw
      case rel => exact ⟨k + 1, by omega, by go_num, HN⟩
      case measure => simp only [intOf]; omega
    · obtain rfl : k = L.length := by omega
      obtain ⟨I1, I2, I3⟩ := HI.out
      have hK := I1.take HT.out o (by omega)
      clear I3
      unfold TakeO at hK
      cases hl : lst o L L.length with
      | none =>
        rw [hl] at hK
        simp only at hK
        have HI2 : Hid (Sto (fun c => w2.heap.size ≤ c ∧ c < w3.heap.size) wr q n u L) := I2
        have HL : Hid (lst o L L.length = none) := hl
        have HOK : Hid (Okl n L) := I1.ok
        clear I1 I2 HI hl
        go_wp2_with (go_at_call 12; refine (hP1 _).mono ?_; rintro e w5 ⟨rfl, hw⟩; obtain rfl := hw.symm; clear hw)
        refine hK.mono ?_
        rintro e w6 ⟨rfl, O6, Y6⟩
        obtain ⟨L6, hL6⟩ : ∃ L6, L6 = L := ⟨_, rfl⟩
        rw [← hL6] at O6
        have S6 := Y6.sto HI2.out HGq.out
        obtain ⟨F6, v6, k1, k2, T6, ok6, fr6, k4⟩ := O6
        have Oc : Ow w w6 q n L F6 := ⟨_, u, fun c hc => by omega, fun c hc e => k2 c e (HGq.out c hc), S6, HOK.out, fr6, T6.lt⟩
        have hCo := Oc.count
        rw [hsz] at hCo
        have HT6 : Hid (Sto F6 w6 p n v6 L6 ∧ Okl n L6) := ⟨T6, ok6⟩
        clear hK Y6 S6 T6 k1 k2 k4 fr6
        go_wp2_with fail
        refine hCo.mono ?_
        rintro e w7 ⟨rfl, hb7⟩
        have Oc7 := Oc.below hb7
        have hK2 := Oc7.take HT.out o (by omega)
        unfold TakeO at hK2
        rw [HL.out] at hK2
        simp only at hK2
        have T7 := HT6.out.1.below hb7
        clear Oc hCo hb7
        go_wp2_with (go_at_call 12; refine (hP1 _).mono ?_; rintro e w5 ⟨rfl, hw⟩; obtain rfl := hw.symm; clear hw)
        refine hK2.mono ?_
        rintro e w8 ⟨rfl, O8, Y8⟩
        rw [← hL6] at O8
        have T8 := Y8.sto T7 fun _ h => h
        have hq1 := count_any (T8.below (Below.refl _ _).drew) HT6.out.2
        have hq2 := fun w' (h : Below w8.heap.size w8 w') => (O8.below h).count
        have HO8 : Hid (Ow w w8 q n L6 F6) := O8
        have HQ2 : Hid _ := hq2
        clear hK2 T7 T8 Y8 Oc7 hq2 O8
        have F1 : True := trivial
        go_wp2
        go_region_held3 (fun _ => True) (trivial)
          (first
          | (go_at_call 21; clear F1; refine hq1.mono ?_; rintro e w9 ⟨rfl, hb9⟩)
          | (go_at_call 21; refine (HQ2.out _ ((Below.refl _ _).drew.trans hb9)).mono ?_; rintro e w10 ⟨rfl, hb10⟩))
        go_wp2
        go_ret
        exact ⟨rfl, below_call' (below_call' HO8.out.frame ((Below.refl _ _).drew.trans hb9)) hb10⟩
      | some m =>
        rw [hl] at hK
        simp only at hK
        obtain ⟨fst, hfst⟩ : ∃ fst, (L.getD m (0, 0)).1 = fst := ⟨_, rfl⟩
        rw [hfst] at hK
        have HI2 : Hid (Sto (fun c => w2.heap.size ≤ c ∧ c < w3.heap.size) wr q n u L) := I2
        have HL : Hid (lst o L L.length = some m) := hl
        have HFS : Hid ((L.getD m (0, 0)).1 = fst) := hfst
        have HOK : Hid (Okl n L) := I1.ok
        clear I1 I2 HI hl hfst
        go_wp2_with (go_at_call 12; refine (hP1 _).mono ?_; rintro e w5 ⟨rfl, hw⟩; obtain rfl := hw.symm; clear hw)
        refine hK.mono ?_
        rintro e w6 ⟨rfl, L6, O6, Y6, cv6⟩
        have CV6 : Hid (∀ x, cov L6 x ↔ cov L x ∧ ¬ inB (fst, o) x) := cv6
        clear cv6
        have S6 := Y6.sto HI2.out HGq.out
        obtain ⟨F6, v6, k1, k2, T6, ok6, fr6, k4⟩ := O6
        have Oc : Ow w w6 q n L F6 := ⟨_, u, fun c hc => by omega, fun c hc e => k2 c e (HGq.out c hc), S6, HOK.out, fr6, T6.lt⟩
        have hCo := Oc.count
        rw [hsz] at hCo
        have HT6 : Hid (Sto F6 w6 p n v6 L6 ∧ Okl n L6) := ⟨T6, ok6⟩
        clear hK Y6 S6 T6 k1 k2 k4 fr6
        go_wp2_with fail
        refine hCo.mono ?_
        rintro e w7 ⟨rfl, hb7⟩
        have Oc7 := Oc.below hb7
        have hK2 := Oc7.take HT.out o (by omega)
        unfold TakeO at hK2
        rw [HL.out] at hK2
        simp only at hK2
        rw [HFS.out] at hK2
        have T7 := HT6.out.1.below hb7
        clear Oc hCo hb7
        go_wp2_with (go_at_call 12; refine (hP1 _).mono ?_; rintro e w5 ⟨rfl, hw⟩; obtain rfl := hw.symm; clear hw)
        refine hK2.mono ?_
        rintro e w8 ⟨rfl, L8, O8, Y8, cv8⟩
        have hL8 : L8 = L6 := size_same O8.ok HT6.out.2 fun x => (cv8 x).trans (CV6.out x).symm
        rw [hL8] at O8
        clear cv8 hL8
        have T8 := Y8.sto T7 fun _ h => h
        have hq1 := count_any (T8.below (Below.refl _ _).drew) HT6.out.2
        have hq2 := fun w' (h : Below w8.heap.size w8 w') => (O8.below h).count
        have HO8 : Hid (Ow w w8 q n L6 F6) := O8
        have HQ2 : Hid _ := hq2
        clear hK2 T7 T8 Y8 Oc7 hq2 O8
        have F1 : True := trivial
        go_wp2
        go_region_held3 (fun _ => True) (trivial)
          (first
          | (go_at_call 21; clear F1; refine hq1.mono ?_; rintro e w9 ⟨rfl, hb9⟩)
          | (go_at_call 21; refine (HQ2.out _ ((Below.refl _ _).drew.trans hb9)).mono ?_; rintro e w10 ⟨rfl, hb10⟩))
        go_wp2
        go_ret
        exact ⟨rfl, below_call' (below_call' HO8.out.frame ((Below.refl _ _).drew.trans hb9)) hb10⟩
end Go.Proofs.YtbpihdeinkopfaaDoor
