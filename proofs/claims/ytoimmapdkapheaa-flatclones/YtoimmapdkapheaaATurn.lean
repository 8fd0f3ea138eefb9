/- Something laid on each area of some pages; Change, Advise. -/
import Derived.Test.YtoimmapdkapheaaALay
import Derived.Lib.Walk
import Derived.Shelf.RegionOpenPlain
namespace Go.Proofs.Ytoimmapdkapheaa
set_option maxRecDepth 4000
open Go.RowKit

/-- What is asked of a function value that turns an area through a pointer. -/
def Turns (f : Nat) (lb : Array Value) (t : Pg → Pg) (w : World) : Prop :=
  (∀ args w, (callFunc f args).run Try.prog w = .ok (.enter f args) w) ∧ ∀ W g n c l k, Below w.heap.size w W → Row rAAr w.heap.size W (.slice (some ⟨g, 0, none⟩) n c) l → k < l.length → Calls Try.prog f (#[.pointer (some ⟨g, k * 5, none⟩)] ++ lb) W fun e w' => e = .returned (.tuple #[]) ∧ Row rAAr w.heap.size w' (.slice (some ⟨g, 0, none⟩) n c) (l.set k ((l.getD k AAr.zero).turn t)) ∧ Keeps W w' (fun b => b = g)

set_option maxHeartbeats 2000000 in
theorem change1_turns (w : World) (b : Nat) (x y : Bool) (hb : Laid w b 31 #[.bool x, .bool y]) : Turns 56 #[.pointer (some ⟨b, 0, none⟩)] (fun p => (x, y, p.2.2)) w := by
  refine ⟨enters_of Try.func56 (by kernel_rfl) rfl, fun W g n c l k hB hr hk => ?_⟩
  obtain ⟨q0, q1⟩ : W.cell? ⟨b, 0, none⟩ = some (.bool x) ∧ W.cell? ⟨b, 1, none⟩ = some (.bool y) := ⟨(hb.below hB).cell 0, (hb.below hB).cell 1⟩
  obtain ⟨g', e', -, hgB, hg, -, -, hat⟩ := hr.at hk
  cases e'
  obtain ⟨c0, c1, c2, c3, c4⟩ := AAr.at hat
  simp only [show rAAr.n = 5 from rfl, show rAAr.zero = AAr.zero from rfl] at c0 c1 c2 c3 c4
  have hf := fun o => hr.frozen o
  have hne : g ≠ b := by have := hb.lt; omega
  have HE : Hid (∃ d, l.getD k AAr.zero = d) := ⟨_, rfl⟩
  obtain ⟨d, hd⟩ := HE.out
  have HD : Hid (l.getD k AAr.zero = d) := hd
  have HR : Hid (Row rAAr w.heap.size (W.setCells g (k * 5 + 2) [.bool x, .bool y]) (.slice (some ⟨g, 0, none⟩) n c) (l.set k ((l.getD k AAr.zero).turn fun p => (x, y, p.2.2)))) := by
    refine hr.sets k 2 [.bool x, .bool y] _ hk (show 2 + 2 ≤ 5 by decide) (fun j hj => ?_) (fun j hj hn => ?_)
    · have hj2 : j < 2 := hj
      match j, hj2 with
      | 0, _ => rfl
      | 1, _ => rfl
    · have hj5 : j < 5 := hj
      have hn2 : j < 2 ∨ 4 ≤ j := hn
      match j, hj5, hn2 with
      | 0, _, _ => rfl
      | 1, _, _ => rfl
      | 4, _, _ => rfl
      | 2, _, h => exact absurd h (by omega)
      | 3, _, h => exact absurd h (by omega)
  rw [hd] at c0 c1 c2 c3 c4
  clear hb hB hr hat hd HE
  go_enter Try.func56, Try.ntmps56
  go_wp2
  first | go_end0 | (refine bodyPost_ret (results_none rfl _ _ _) rfl ?_)
  exact ⟨rfl, HR.out, Keeps.sets [.bool x, .bool y] W g (k * 5 + 2)⟩

set_option maxHeartbeats 2000000 in
theorem advise1_turns (w : World) (b : Nat) (x : Bool) (hb : Laid w b 4 #[.bool x]) : Turns 67 #[.pointer (some ⟨b, 0, none⟩)] (fun p => (p.1, p.2.1, x)) w := by
  refine ⟨enters_of Try.func67 (by kernel_rfl) rfl, fun W g n c l k hB hr hk => ?_⟩
  have q0 : W.cell? ⟨b, 0, none⟩ = some (.bool x) := (hb.below hB).cell 0
  obtain ⟨g', e', -, hgB, hg, -, -, hat⟩ := hr.at hk
  cases e'
  obtain ⟨c0, c1, c2, c3, c4⟩ := AAr.at hat
  simp only [show rAAr.n = 5 from rfl, show rAAr.zero = AAr.zero from rfl] at c0 c1 c2 c3 c4
  have hf := fun o => hr.frozen o
  have hne : g ≠ b := by have := hb.lt; omega
  obtain ⟨d, hd⟩ : ∃ d, l.getD k AAr.zero = d := ⟨_, rfl⟩
  have HR : Hid (Row rAAr w.heap.size (W.setCells g (k * 5 + 4) [.bool x]) (.slice (some ⟨g, 0, none⟩) n c) (l.set k ((l.getD k AAr.zero).turn fun p => (p.1, p.2.1, x)))) := by
    refine hr.sets k 4 [.bool x] _ hk (show 4 + 1 ≤ 5 by decide) (fun j hj => ?_) (fun j hj hn => ?_)
    · have hj2 : j < 1 := hj
      match j, hj2 with
      | 0, _ => rfl
    · have hj5 : j < 5 := hj
      have hn2 : j < 4 ∨ 5 ≤ j := hn
      match j, hj5, hn2 with
      | 0, _, _ => rfl
      | 1, _, _ => rfl
      | 2, _, _ => rfl
      | 3, _, _ => rfl
      | 4, _, h => exact absurd h (by omega)
  rw [hd] at c0 c1 c2 c3 c4
  clear hb hB hr hat hd
  go_enter Try.func67, Try.ntmps67
  go_wp2
  first | go_end0 | (refine bodyPost_ret (results_none rfl _ _ _) rfl ?_)
  exact ⟨rfl, HR.out, Keeps.sets [.bool x] W g (k * 5 + 4)⟩

/-- The first k of them turned. -/
def trnN (t : Pg → Pg) (k : Nat) (l : List AAr) : List AAr := (l.take k).map (AAr.turn t) ++ l.drop k
theorem trn_len (t : Pg → Pg) (k : Nat) (l : List AAr) : (trnN t k l).length = l.length := by simp [trnN]; omega
theorem trn_zero (t : Pg → Pg) (l : List AAr) : trnN t 0 l = l := rfl
theorem trn_all (t : Pg → Pg) (l : List AAr) : trnN t l.length l = l.map (AAr.turn t) := by simp [trnN]
theorem trn_get (t : Pg → Pg) {k : Nat} {l : List AAr} (h : k < l.length) : (trnN t k l).getD k AAr.zero = l.getD k AAr.zero := by
  unfold trnN
  rw [List.getD_eq_getElem?_getD, List.getElem?_append_right (by simp; omega), List.getElem?_drop, List.getD_eq_getElem?_getD]
  simp only [List.length_map, List.length_take]
  rw [Nat.min_eq_left (Nat.le_of_lt h), Nat.sub_self, Nat.add_zero]
theorem trn_step (t : Pg → Pg) {k : Nat} {l : List AAr} (h : k < l.length) : (trnN t k l).set k ((l.getD k AAr.zero).turn t) = trnN t (k + 1) l := by
  unfold trnN
  rw [List.set_append_right _ _ (by simp; omega), take_one l h AAr.zero, drop_cons l h]
  simp only [List.length_map, List.length_take, List.map_append, List.map_cons, List.map_nil, List.append_assoc, List.cons_append, List.nil_append]
  rw [Nat.min_eq_left (Nat.le_of_lt h), Nat.sub_self]
  rfl
/-- What Change, and Advise, tell. -/
def EachW (w : World) (L : List AAr) (a b : Int) (t : Pg → Pg) (e : Ending) (w' : World) : Prop :=
  ((MayA L ∧ SpanA a b) ∧ covA a b (clipA a b L) = true ∧ LayW w (layM L a b ((clipA a b L).map (AAr.turn t))) e w') ∨
  ((MayA L ∧ SpanA a b) ∧ covA a b (clipA a b L) = false ∧ e = .returned (.tuple #[.slice none 0 0, .iface 48 (.int .i64 3)]) ∧ Below w.heap.size w w') ∨
  (¬ (MayA L ∧ SpanA a b) ∧ e = .returned (.tuple #[.slice none 0 0, .iface 48 (.int .i64 1)]) ∧ Below w.heap.size w w')
theorem EachW.more {w W w' : World} {L : List AAr} {a b : Int} {t : Pg → Pg} {e : Ending} (h : EachW W L a b t e w') (hb : Below w.heap.size w W) : EachW w L a b t e w' := by
  rcases h with ⟨h1, h2, h3⟩ | ⟨h1, h2, h3, h4⟩ | ⟨h1, h2, h3⟩
  · exact Or.inl ⟨h1, h2, h3.more hb⟩
  · exact Or.inr (Or.inl ⟨h1, h2, h3, below_call' hb h4⟩)
  · exact Or.inr (Or.inr ⟨h1, h2, below_call' hb h3⟩)
theorem LayW.pair {w w' : World} {M : List AAr} {e : Ending} (h : LayW w M e w') : ∃ v u, e = .returned (.tuple #[v, u]) := by
  have h1 := h.1
  by_cases c : M.length ≤ 64
  · rw [if_pos c] at h1
    obtain ⟨v, e1, -⟩ := h1
    exact ⟨v, _, e1⟩
  · rw [if_neg c] at h1
    exact ⟨_, _, h1⟩
theorem EachW.pair {w w' : World} {L : List AAr} {a b : Int} {t : Pg → Pg} {e : Ending} (h : EachW w L a b t e w') : ∃ v u, e = .returned (.tuple #[v, u]) := by
  rcases h with ⟨_, _, h3⟩ | ⟨_, _, h3, _⟩ | ⟨_, h2, _⟩
  · exact h3.pair
  · exact ⟨_, _, h3⟩
  · exact ⟨_, _, h2⟩
set_option maxRecDepth 100000 in
set_option maxHeartbeats 8000000 in
theorem each_any {w : World} {ao : Option Addr} {c : Nat} {L : List AAr} (hs : Sn rAAr w ao L) (hm : L.length ≤ maxLen) (a b : Int) (f : Nat) (lb : Array Value) (t : Pg → Pg) (hT : Turns f lb t w) :
    Calls Try.prog 55 #[.slice ao L.length c, .int .i64 a, .int .i64 b, .func (.func f) #[] lb] w (EachW w L a b t) := by
  have hC := chkspan_any (c := c) hs hm a b
  obtain ⟨eg, hT⟩ := hT
  have HT : Hid (∀ W g n c l k, Below w.heap.size w W → Row rAAr w.heap.size W (.slice (some ⟨g, 0, none⟩) n c) l → k < l.length → Calls Try.prog f (#[.pointer (some ⟨g, k * 5, none⟩)] ++ lb) W fun e w' => e = .returned (.tuple #[]) ∧ Row rAAr w.heap.size w' (.slice (some ⟨g, 0, none⟩) n c) (l.set k ((l.getD k AAr.zero).turn t)) ∧ Keeps W w' (fun b => b = g)) := hT
  have HS : Hid (Sn rAAr w ao L) := hs
  clear hs hT
  go_enter Try.func55, Try.ntmps55
  go_wp2_with fail
  refine hC.mono ?_
  rintro e w1 ⟨h, hb⟩
  have HB1 : Hid (Below w.heap.size w w1) := hb
  clear hb hC
  rcases h with ⟨hM, rfl⟩ | ⟨hM, rfl⟩
  · have HM : Hid (MayA L ∧ SpanA a b) := hM
    have hW := within_any (c := c) (HS.out.below HB1.out) (by have := hM.1.1; omega) a b
    clear hM hm
    go_wp2_with fail
    refine hW.mono ?_
    rintro e w2 ⟨v1, rfl, r1, hb2⟩
    obtain ⟨a1, k1, rfl⟩ := r1.form
    have HB2 : Hid (Below w.heap.size w w2) := below_call' HB1.out hb2
    have HR2 : Hid (Row rAAr w.heap.size w2 (.slice a1 (clipA a b L).length k1) (clipA a b L)) := r1.lower HB1.out.size
    have hcl := clip_len a b L
    have hcl2 : (clipA a b L).length ≤ 64 := by have := HM.out.1.1; omega
    have hCv := covers_any (c := k1) (r1.sn) (by omega) a b
    have HCL : Hid ((clipA a b L).length ≤ 64) := hcl2
    have HPO : Hid (∀ e w', EachW w L a b t e w' → EachW w L a b t e w') := fun _ _ h => h
    clear hW r1 hb2 hcl
    obtain ⟨I, hI⟩ : ∃ I, clipA a b L = I := ⟨_, rfl⟩
    have HI : Hid (clipA a b L = I) := hI
    rw [hI] at hCv hcl2 HR2 HCL
    rw [hI]
    clear hI
    cases hcv : covA a b I with
    | false =>
      rw [hcv] at hCv
      have HCV : Hid (covA a b I = false) := hcv
      clear hcv
      go_wp2_with fail
      refine hCv.mono ?_
      rintro e w3 ⟨rfl, hb3⟩
      have HB3 : Hid (Below w.heap.size w w3) := below_call' HB2.out hb3
      clear hCv hb3
      go_wp2
      go_ret2
      exact Or.inr (Or.inl ⟨HM.out, by rw [HI.out]; exact HCV.out, rfl, HB3.out⟩)
    | true =>
      rw [hcv] at hCv
      have HCV : Hid (covA a b I = true) := hcv
      clear hcv
      go_wp2_with fail
      refine hCv.mono ?_
      rintro e w3 ⟨rfl, hb3⟩
      have HB3 : Hid (Below w.heap.size w w3) := below_call' HB2.out hb3
      have HR3 : Hid (Row rAAr w.heap.size w3 (.slice a1 I.length k1) (trnN t 0 I)) := HR2.out.below hb3
      clear hCv hb3
      go_wp2
      go_loopw [32] (fun iv W => ∃ k : Nat, k ≤ I.length ∧ iv = .int .i64 k ∧ Hid (Row rAAr w.heap.size W (.slice a1 I.length k1) (trnN t k I)) ∧ Hid (Below w.heap.size w W)) (fun iv _ => I.length - (intOf iv).toNat)
      case atStart => exact ⟨0, Nat.zero_le _, rfl, HR3, HB3⟩
      case round =>
        obtain ⟨k, hk, rfl, HR, HB⟩ := hrel
        by_cases hlt : k < I.length
        · have hltz : (k : Int) < (I.length : Int) := by omega
          have hlt' : k < (trnN t k I).length := by rw [trn_len]; exact hlt
          obtain ⟨g, rfl, -, -, hg, -, -, -⟩ := HR.out.at hlt'
          have hcall := HT.out wr g I.length k1 (trnN t k I) k HB.out HR.out hlt'
          rw [trn_get t hlt, trn_step t hlt] at hcall
          have HGB : Hid (w.heap.size ≤ g) := (HR.out.lt g rfl).1
          clear hlt'
          go_wp2_with (go_at_fn f; refine hcall.mono ?_; rintro e w4 ⟨rfl, r4, k4⟩)
          have HR4 : Hid (Row rAAr w.heap.size w4 (.slice (some ⟨g, 0, none⟩) I.length k1) (trnN t (k + 1) I)) := r4
          have HB4 : Hid (Below w.heap.size w w4) := HB.out.trans (k4.below HB.out.size fun c _ e => by rw [e]; exact HGB.out)
          clear hcall r4 k4
          go_wp2
          go_roundw
          case rel => exact ⟨k + 1, by omega, by go_num, HR4, HB4⟩
          case measure => simp only [intOf]; omega
        · obtain rfl : k = I.length := by omega
          have HRT : Hid (Row rAAr w.heap.size wr (.slice a1 I.length k1) (I.map (AAr.turn t))) := by
            rw [← trn_all]
            exact HR.out
          have hbl := below_any (c := c) (HS.out.below HB.out) (by have := HM.out.1.1; omega) a
          clear HR3 HB3 HR2 HB2 HR HT
          go_wp2_with fail
          refine hbl.mono ?_
          rintro e w5 ⟨v5, rfl, r5, hb5⟩
          obtain ⟨a5, k5, rfl⟩ := r5.form
          have HB5 : Hid (Below w.heap.size w w5) := below_call' HB.out hb5
          have HR5 : Hid (Sn rAAr w5 a5 (clipA 0 a L) ∧ Row rAAr w.heap.size w5 (.slice a1 I.length k1) (I.map (AAr.turn t))) := ⟨r5.sn, HRT.out.below hb5⟩
          have hab := above_any (c := c) (HS.out.below HB5.out) (by have := HM.out.1.1; omega) b
          clear hbl r5 hb5 HRT
          go_wp2_with fail
          refine hab.mono ?_
          rintro e w6 ⟨v6, rfl, r6, hb6⟩
          obtain ⟨a6, k6, rfl⟩ := r6.form
          have HB6 : Hid (Below w.heap.size w w6) := below_call' HB5.out hb6
          have hrm := HR5.out.2.below hb6
          have hil : (I.map (AAr.turn t)).length = I.length := by simp
          have hSd := side3_any (k1 := k5) (k2 := k1) (k3 := k6) (HR5.out.1.below hb6) ((show Row rAAr w.heap.size w6 (.slice a1 I.length k1) (I.map (AAr.turn t)) from hrm).sn) r6.sn (by
            have h1 := clip_len 0 a L
            have h2 := clip_len b 4096 L
            have h3 := HM.out.1.1
            have h4 := HCL.out
            rw [hil]
            omega)
          rw [hil] at hSd
          clear hab r6 hb6 hrm hil
          go_wp2_with fail
          refine hSd.mono ?_
          rintro e w7 ⟨v, u, rfl, h7⟩
          have H7 : Hid (LayW w (layM L a b (I.map (AAr.turn t))) (.returned (.tuple #[v, u])) w7) := h7.more HB6.out
          clear hSd h7
          go_wp2
          go_ret2
          exact Or.inl ⟨HM.out, by rw [HI.out]; exact HCV.out, by rw [HI.out]; exact H7.out⟩
  · have HM : Hid (¬ (MayA L ∧ SpanA a b)) := hM
    clear hM
    go_wp2
    go_ret2
    exact Or.inr (Or.inr ⟨HM.out, rfl, HB1.out⟩)

set_option maxHeartbeats 2000000 in
theorem change_any {w : World} {ao : Option Addr} {c : Nat} {L : List AAr} (hs : Sn rAAr w ao L) (hm : L.length ≤ maxLen) (a b : Int) (x y : Bool) :
    Calls Try.prog 39 #[.slice ao L.length c, .int .i64 a, .int .i64 b, .agg #[.bool x, .bool y]] w (EachW w L a b (fun p => (x, y, p.2.2))) := by
  have hb0 := new_below w (.cells #[.bool x, .bool y] 31)
  have hE := each_any (c := c) (hs.below hb0) hm a b 56 _ (fun p => (x, y, p.2.2)) (change1_turns (w.alloc (.cells #[.bool x, .bool y] 31)) w.heap.size x y (Laid.new _ _ _))
  have HB0 : Hid (Below w.heap.size w (w.alloc (.cells #[.bool x, .bool y] 31))) := hb0
  clear hs hb0
  go_enter Try.func39, Try.ntmps39
  go_wp2_with fail
  refine hE.mono ?_
  rintro e w1 h
  have h' : EachW w L a b (fun p => (x, y, p.2.2)) e w1 := h.more HB0.out
  clear hE h
  obtain ⟨v, u, rfl⟩ := h'.pair
  have H : Hid (EachW w L a b (fun p => (x, y, p.2.2)) (.returned (.tuple #[v, u])) w1) := h'
  clear h'
  go_wp2
  go_ret2
  exact H.out
set_option maxHeartbeats 2000000 in
theorem advise_any {w : World} {ao : Option Addr} {c : Nat} {L : List AAr} (hs : Sn rAAr w ao L) (hm : L.length ≤ maxLen) (a b : Int) (x : Bool) :
    Calls Try.prog 52 #[.slice ao L.length c, .int .i64 a, .int .i64 b, .bool x] w (EachW w L a b (fun p => (p.1, p.2.1, x))) := by
  have hb0 := new_below w (.cells #[.bool x] 4)
  have hE := each_any (c := c) (hs.below hb0) hm a b 67 _ (fun p => (p.1, p.2.1, x)) (advise1_turns (w.alloc (.cells #[.bool x] 4)) w.heap.size x (Laid.new _ _ _))
  have HB0 : Hid (Below w.heap.size w (w.alloc (.cells #[.bool x] 4))) := hb0
  clear hs hb0
  go_enter Try.func52, Try.ntmps52
  go_wp2_with fail
  refine hE.mono ?_
  rintro e w1 h
  have h' : EachW w L a b (fun p => (p.1, p.2.1, x)) e w1 := h.more HB0.out
  clear hE h
  obtain ⟨v, u, rfl⟩ := h'.pair
  have H : Hid (EachW w L a b (fun p => (p.1, p.2.1, x)) (.returned (.tuple #[v, u])) w1) := h'
  clear h'
  go_wp2
  go_ret2
  exact H.out
end Go.Proofs.Ytoimmapdkapheaa
