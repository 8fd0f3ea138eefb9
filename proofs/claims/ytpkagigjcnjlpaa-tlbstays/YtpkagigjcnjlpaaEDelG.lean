/- slices.DeleteFunc over entries. -/
import Derived.Test.YtpkagigjcnjlpaaEDelF
namespace Go.Proofs.Ytpkagigjcnjlpaa
open Go.RowKit

/-- What stays. -/
def stay (p : Ent → Bool) (l : List Ent) : List Ent := l.filter fun x => !p x
theorem stay_none {p : Ent → Bool} {l : List Ent} (h : ∀ x ∈ l, p x = false) : stay p l = l := by
  unfold stay
  rw [List.filter_eq_self]
  intro x hx
  rw [h x hx]
  rfl
theorem stay_snoc (p : Ent → Bool) (l : List Ent) (x : Ent) : stay p (l ++ [x]) = stay p l ++ (if p x then [] else [x]) := by
  unfold stay
  rw [List.filter_append]
  cases h : p x <;> simp [h]
theorem stay_len (p : Ent → Bool) (l : List Ent) : (stay p l).length ≤ l.length := List.length_filter_le _ _

/-- A row in which the first j have been asked. -/
def Mid (w : World) (g c j : Nat) (A l : List Ent) : Prop :=
  ∃ cur : Array Value, w.heap[g]? = some (.cells cur 26 (0, 0)) ∧ cur.size = c * 6 ∧ Head cur A ∧ ∀ k, j ≤ k → k < l.length → ∀ t, t < 6 → cur[k * 6 + t]? = (ecells (l.getD k Ent.zero))[t]?
theorem Mid.below {w w' : World} {g c j : Nat} {A l : List Ent} (h : Mid w g c j A l) (hb : Below w.heap.size w w') : Mid w' g c j A l := by
  obtain ⟨cur, h1, h2⟩ := h
  exact ⟨cur, (hb.block g (Array.getElem?_eq_some_iff.1 h1).1).trans h1, h2⟩
theorem Mid.lt {w : World} {g c j : Nat} {A l : List Ent} (h : Mid w g c j A l) : g < w.heap.size := by
  obtain ⟨cur, h1, h2⟩ := h
  exact (Array.getElem?_eq_some_iff.1 h1).1
theorem Mid.skip {w : World} {g c j : Nat} {A l : List Ent} (h : Mid w g c j A l) : Mid w g c (j + 1) A l := by
  obtain ⟨cur, h1, h2, h3, h4⟩ := h
  exact ⟨cur, h1, h2, h3, fun k hk => h4 k (by omega)⟩
theorem Mid.frozen {w : World} {g c j : Nat} {A l : List Ent} (h : Mid w g c j A l) (o : Nat) : w.frozen? ⟨g, o, none⟩ = false := by
  obtain ⟨cur, h1, h2⟩ := h
  exact frozen_of_row w g o cur _ h1
theorem Mid.cell {w : World} {g c j : Nat} {A l : List Ent} (h : Mid w g c j A l) (o : Nat) (ho : o < c * 6) : ∃ u, w.cell? ⟨g, o, none⟩ = some u := by
  obtain ⟨cur, h1, h2, _⟩ := h
  rw [cell_of_row w g o cur _ _ h1]
  exact ⟨_, Array.getElem?_eq_getElem (by omega)⟩
theorem Mid.at {w : World} {g c j : Nat} {A l : List Ent} (h : Mid w g c j A l) (hj : j < l.length) :
    w.cell? ⟨g, j * 6, none⟩ = some (.int .i64 (l.getD j Ent.zero).asid) ∧ w.cell? ⟨g, j * 6 + 1, none⟩ = some (.int .i64 (l.getD j Ent.zero).first) ∧ w.cell? ⟨g, j * 6 + 2, none⟩ = some (.int .i64 (l.getD j Ent.zero).order) ∧ w.cell? ⟨g, j * 6 + 3, none⟩ = some (.int .i64 (l.getD j Ent.zero).base) ∧ w.cell? ⟨g, j * 6 + 4, none⟩ = some (.bool (l.getD j Ent.zero).writ) ∧ w.cell? ⟨g, j * 6 + 5, none⟩ = some (.bool (l.getD j Ent.zero).exe) := by
  obtain ⟨cur, h1, h2, h3, h4⟩ := h
  exact head_cells h1 (h4 j (Nat.le_refl _) hj)
theorem head_snoc {cur : Array Value} {A : List Ent} {c : Nat} (hA : Head cur A) (hs : cur.size = c * 6) (hc : A.length < c) (x : Ent) : Head (wrt cur (A.length * 6) (ecells x).toList) (A ++ [x]) := by
  intro k hk t ht
  have hl : (ecells x).toList.length = 6 := rfl
  simp at hk
  by_cases e : k < A.length
  · rw [wrt_out _ _ _ _ (Or.inl (by omega)), hA k e t ht]
    congr 2
    rw [List.getD_eq_getElem?_getD, List.getD_eq_getElem?_getD, List.getElem?_append_left e]
  · obtain rfl : k = A.length := by omega
    rw [wrt_in _ _ _ _ (by rw [hl]; exact ht) (by rw [hl, hs]; omega)]
    simp
theorem Mid.put {w : World} {g c j : Nat} {A l : List Ent} (h : Mid w g c j A l) (hA : A.length < j) (hj : j < l.length) (hc : l.length ≤ c) : Mid (w.setCells g (A.length * 6) (ecells (l.getD j Ent.zero)).toList) g c (j + 1) (A ++ [l.getD j Ent.zero]) l := by
  obtain ⟨cur, h1, h2, h3, h4⟩ := h
  refine ⟨_, heap_setCells _ _ g _ cur _ h1, by rw [wrt_size]; exact h2, head_snoc h3 h2 (by omega) _, fun k hk hkl t ht => ?_⟩
  rw [wrt_out _ _ _ _ (Or.inr (by rw [show (ecells (l.getD j Ent.zero)).toList.length = 6 from rfl]; omega))]
  exact h4 k (by omega) hkl t ht

def DFPost (w : World) (B : Nat) (v : Value) (l' : List Ent) (e : Ending) (w' : World) : Prop := ∃ v', e = .returned v' ∧ Own B w' v' l' ∧ v'.ownBlock = v.ownBlock ∧ w.grownBy w' v.ownBlock

set_option maxRecDepth 100000 in
set_option maxHeartbeats 4000000 in
theorem deleteFunc_any {B : Nat} {w : World} {v : Value} {l : List Ent} (hown : Own B w v l) (h64 : l.length ≤ 64) (f : Nat) (lb : Array Value) (p : Ent → Bool) (Inv : World → Prop) (hI : Inv w) (hS : ∀ W W', Inv W → Below W.heap.size W W' → Inv W') (hS' : ∀ g, v.ownBlock = some g → Stable g Inv) (hG : Goes f lb p l Inv) :
    Calls Try.prog 45 #[v, .func (.func f) #[] lb] w (DFPost w B v (stay p l)) := by
  have hIF := indexFunc_any hown h64 f lb p Inv hI hS hG
  rcases idxP_spec p l 0 with ⟨e, hno⟩ | ⟨k0, hk0, e, hyes, hno⟩
  · rw [e] at hIF
    rw [stay_none hno]
    have HO : Hid (Own B w v l) := hown
    clear hown hG hS hS' hI hno e
    obtain ⟨ao, n, c, rfl⟩ : ∃ ao n c, v = .slice ao n c := by
      rcases HO.out.cases' with ⟨rfl, _⟩ | ⟨g, c, cur, rfl, _⟩
      · exact ⟨_, _, _, rfl⟩
      · exact ⟨_, _, _, rfl⟩
    go_enter Try.func45, Try.ntmps45
    go_wp2_with (go_at_call 47; refine hIF.mono ?_; rintro e w1 ⟨rfl, hb⟩)
    go_ret
    exact ⟨_, rfl, HO.out.below hb, rfl, grown_below hb _⟩
  · rw [e] at hIF
    simp only [Nat.zero_add] at hIF
    obtain ⟨eg, hG⟩ := hG
    rcases hown.cases' with ⟨rfl, rfl⟩ | ⟨g, c, cur, rfl, hB, hg0, hg, hlc, hcm, hs, hh⟩
    · simp at hk0
    have hcm' : c ≤ 9223372036854775807 := by unfold maxLen at hcm; omega
    replace hS' := hS' g rfl
    have M0 : Mid w g c (k0 + 1) (stay p (l.take (k0 + 1))) l := by
      rw [take_snoc l k0 hk0, stay_snoc, if_pos hyes, List.append_nil, stay_none hno]
      refine ⟨cur, hg, hs, fun k hk t ht => ?_, fun k _ hk t ht => hh k hk t ht⟩
      rw [List.length_take] at hk
      rw [hh k (by omega) t ht]
      congr 2
      rw [List.getD_eq_getElem?_getD, List.getD_eq_getElem?_getD, List.getElem?_take_of_lt (by omega)]
    have hlen0 : (stay p (l.take (k0 + 1))).length = k0 := by
      rw [take_snoc l k0 hk0, stay_snoc, if_pos hyes, List.append_nil, stay_none hno]
      simp
      omega
    have HM : Hid _ := And.intro M0 hlen0
    have HG : Hid _ := hG
    have hne1 : ((k0 : Int) == -1) = false := beq_eq_false_iff_ne.2 (by omega)
    clear hown hG hyes hno e hh hg hs cur M0 hlen0
    go_enter Try.func45, Try.ntmps45
    go_wp2_with (go_at_call 47; refine hIF.mono ?_; rintro e w1 ⟨rfl, hb⟩)
    go_loopw [5, 6, 7] (fun i jv _ W => ∃ (j : Nat) (A : List Ent), j ≤ l.length ∧ A.length < j ∧ i = .int .i64 A.length ∧ jv = .int .i64 j ∧ Hid (A = stay p (l.take j)) ∧ Hid (Mid W g c j A l) ∧ Hid (Inv W) ∧ Hid (w.grownBy W (some g))) (fun _ jv _ _ => l.length - (intOf jv).toNat)
    case atStart => exact ⟨k0 + 1, _, by omega, by rw [HM.out.2]; omega, by rw [HM.out.2], by go_num, rfl, HM.out.1.below hb, hS _ _ hI hb, grown_below hb _⟩
    case round =>
      obtain ⟨j, A, hj, hAj, rfl, rfl, hA, hM, hIv, hGr⟩ := hrel
      clear HM hIF hne1
      by_cases hlt : j < l.length
      · have hltz : (j : Int) < (l.length : Int) := by omega
        obtain ⟨c0, c1, c2, c3, c4, c5⟩ := hM.out.at hlt
        have B1 : Below wr.heap.size wr (wr.alloc (.cells (ecells (l.getD j Ent.zero)) 26)) := (Below.refl _ _).alloc (Nat.le_refl _) _
        have X1 := Laid.new wr 26 (ecells (l.getD j Ent.zero))
        have hcall := HG.out _ (hS _ _ hIv.out B1) _ (mem_getD l j hlt)
        have M1 := hM.out.below B1
        have hI1 := hS _ _ hIv.out B1
        have G1 := grown_trans hGr.out (grown_below B1 _)
        have hput := fun w (M : Mid w g c j A l) => M.put hAj hlt hlc
        have htk := take_snoc l j hlt
        generalize l.getD j Ent.zero = x at *
        have HT : Hid _ := htk
        have HP : Hid _ := hput
        have HM1 : Hid _ := And.intro M1 (And.intro hI1 G1)
        have HX1 : Hid (Laid (wr.alloc (.cells (ecells x) 26)) wr.heap.size 26 (ecells x)) := X1
        clear htk hput hM hIv hGr M1 hI1 G1 B1 X1
        unfold ev at hcall
        cases hp : p x with
        | true =>
          rw [hp] at hcall
          have HPX : Hid _ := hp
          clear hp
          go_wp2_with fail
          refine hcall.mono ?_
          rintro e w2 ⟨rfl, hb2⟩
          go_wp2
          obtain ⟨M1, hI1, G1⟩ := HM1.out
          go_roundw
          case rel => exact ⟨j + 1, A, by omega, by omega, rfl, by go_num, by
            show A = _
            rw [HT.out, stay_snoc, if_pos HPX.out, List.append_nil]
            exact hA.out, (M1.below hb2).skip, hS _ _ hI1 hb2, grown_trans G1 (grown_below hb2 _)⟩
          case measure => simp [intOf]; omega
        | false =>
          rw [hp] at hcall
          have HPX : Hid _ := hp
          clear hp
          go_wp2_with fail
          refine hcall.mono ?_
          rintro e w2 ⟨rfl, hb2⟩
          obtain ⟨M1, hI1, G1⟩ := HM1.out
          have M2 := M1.below hb2
          have I2 := hS _ _ hI1 hb2
          have G2 := grown_trans G1 (grown_below hb2 _)
          have hx2 := (HX1.out.below hb2)
          obtain ⟨x0, x1, x2, x3, x4, x5⟩ := hx2.ent
          obtain ⟨u0, q0⟩ := M2.cell (A.length * 6) (by omega)
          obtain ⟨u1, q1⟩ := M2.cell (A.length * 6 + 1) (by omega)
          obtain ⟨u2, q2⟩ := M2.cell (A.length * 6 + 2) (by omega)
          obtain ⟨u3, q3⟩ := M2.cell (A.length * 6 + 3) (by omega)
          obtain ⟨z4, q4⟩ := M2.cell (A.length * 6 + 4) (by omega)
          obtain ⟨z5, q5⟩ := M2.cell (A.length * 6 + 5) (by omega)
          have hz := M2.frozen
          have hAl : (A.length : Int) < (l.length : Int) := by omega
          have HH : Hid _ := And.intro M2 (And.intro I2 G2)
          clear M1 hI1 G1 M2 I2 G2 hx2 HM1 HX1 hcall hb2 c0 c1 c2 c3 c4 c5
          go_wp2
          obtain ⟨M2, I2, G2⟩ := HH.out
          have hgs := grown_setCells (ecells x).toList w2 g (A.length * 6)
          go_roundw
          case rel => exact ⟨j + 1, A ++ [x], by omega, by rw [List.length_append]; exact Nat.add_lt_add_right hAj 1, by rw [List.length_append]; rfl, by go_num, by
            show A ++ [x] = _
            rw [HT.out, stay_snoc, HPX.out, ← hA.out]
            rfl, HP.out _ M2, hS' _ _ I2 hgs, grown_trans G2 hgs⟩
          case measure => simp [intOf]; omega
      · obtain rfl : j = l.length := by omega
        have hltz : ¬ (l.length : Int) < (l.length : Int) := by omega
        obtain ⟨vs, hvl, hcl⟩ := run_clear wr 0 g (A.length * 6) (l.length - A.length) (c - A.length) (by omega) (fun t ht => by
          obtain ⟨u, hu⟩ := hM.out.cell (A.length * 6 + t) (by omega)
          rw [hu]
          rfl) hM.out.frozen
        have hac : A.length ≤ c := by omega
        have hac' : ¬ c = A.length := by omega
        go_wp2
        go_ret
        have hst : stay p l = A := by rw [hA.out, List.take_length]
        rw [hst]
        refine ⟨_, rfl, ?_, rfl, grown_trans hGr.out (grown_setCells _ _ _ _)⟩
        obtain ⟨cur, h1, h2, h3, _⟩ := hM.out
        refine Own.mk' hB (heap_setCells _ _ g _ cur _ h1) (by omega) hcm (by rw [wrt_size]; exact h2) fun k hk t ht => ?_
        rw [wrt_out _ _ _ _ (Or.inl (by omega))]
        exact h3 k hk t ht
end Go.Proofs.Ytpkagigjcnjlpaa
