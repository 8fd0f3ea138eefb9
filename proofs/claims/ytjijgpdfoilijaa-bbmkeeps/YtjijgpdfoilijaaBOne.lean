/- One watch, and two, within a call that made them; the document's examples. -/
import Derived.Test.YtjijgpdfoilijaaBView
import Derived.Test.YtjijgpdfoilijaaPRefWord
namespace Go.Proofs.Ytjijgpdfoilijaa
open Go.RowKit

section
variable {F G : Nat → Prop} {W w w' : World} {b m b' m' : Nat} {br br' : Bool} {v v' : View}
theorem Wv.keeps {s : Nat → Prop} (h : Wv F w b m br v) (hk : Keeps w w' s) (hs : ∀ c, F c → ¬ s c) : Wv F w' b m br v := by
  obtain ⟨l, e, h⟩ := h
  exact ⟨l, e, h.keeps hk hs⟩
theorem Wv.lt (h : Wv F w b m br v) (c : Nat) (hc : F c) : c < w.heap.size := by
  obtain ⟨l, e, h⟩ := h
  exact h.lt c hc
/-- One watch: all its blocks are new since W. -/
def One (W w : World) (b m : Nat) (br : Bool) (v : View) : Prop := ∃ F, (∀ c, F c → W.heap.size ≤ c) ∧ Wv F w b m br v ∧ Below W.heap.size W w
/-- Two watches that share nothing. -/
def Two (W w : World) (b m : Nat) (br : Bool) (v : View) (b' m' : Nat) (br' : Bool) (v' : View) : Prop :=
  ∃ F G, (∀ c, F c → W.heap.size ≤ c) ∧ (∀ c, G c → W.heap.size ≤ c) ∧ (∀ c, F c → G c → False) ∧ Wv F w b m br v ∧ Wv G w b' m' br' v' ∧ Below W.heap.size W w
theorem One.frame (h : One W w b m br v) : Below W.heap.size W w := by
  obtain ⟨F, _, _, h⟩ := h
  exact h
theorem Two.frame (h : Two W w b m br v b' m' br' v') : Below W.heap.size W w := by
  obtain ⟨F, G, _, _, _, _, _, h⟩ := h
  exact h
theorem One.below (h : One W w b m br v) (hb : Below w.heap.size w w') : One W w' b m br v := by
  obtain ⟨F, h1, h2, h3⟩ := h
  exact ⟨F, h1, h2.keeps (Keeps.of_below hb (fun _ => False)) fun _ _ e => e, below_call' h3 hb⟩
theorem Two.below (h : Two W w b m br v b' m' br' v') (hb : Below w.heap.size w w') : Two W w' b m br v b' m' br' v' := by
  obtain ⟨F, G, h1, h2, h3, h4, h5, h6⟩ := h
  exact ⟨F, G, h1, h2, h3, h4.keeps (Keeps.of_below hb (fun _ => False)) fun _ _ e => e, h5.keeps (Keeps.of_below hb (fun _ => False)) fun _ _ e => e, below_call' h6 hb⟩
theorem Two.swap (h : Two W w b m br v b' m' br' v') : Two W w b' m' br' v' b m br v := by
  obtain ⟨F, G, h1, h2, h3, h4, h5, h6⟩ := h
  exact ⟨G, F, h2, h1, fun c hg hf => h3 c hf hg, h5, h4, h6⟩
theorem One.op {f : FuncId} {args : Array Value} {r : Value} {br1 : Bool} {v1 : View} (h : One W w b m br v) (hc : ∀ F, Wv F w b m br v → Calls Try.prog f args w (VPost F w b m br1 v1 r)) : Calls Try.prog f args w fun e w' => e = .returned r ∧ One W w' b m br1 v1 := by
  obtain ⟨F, h1, h2, h3⟩ := h
  refine (hc F h2).mono ?_
  rintro e w1 ⟨rfl, F', hF, hw, hk⟩
  have hz := h3.size
  exact ⟨rfl, F', fun c hc => (hF c hc).elim (h1 c) fun h => by omega, hw, h3.trans (hk.below hz fun c _ e => h1 c e)⟩
theorem Two.op {f : FuncId} {args : Array Value} {r : Value} {br1 : Bool} {v1 : View} (h : Two W w b m br v b' m' br' v') (hc : ∀ F, Wv F w b m br v → Calls Try.prog f args w (VPost F w b m br1 v1 r)) : Calls Try.prog f args w fun e w' => e = .returned r ∧ Two W w' b m br1 v1 b' m' br' v' := by
  obtain ⟨F, G, h1, h2, h3, h4, h5, h6⟩ := h
  refine (hc F h4).mono ?_
  rintro e w1 ⟨rfl, F', hF, hw, hk⟩
  have hz := h6.size
  refine ⟨rfl, F', G, fun c hc => ?_, h2, fun c hf hg => ?_, hw, h5.keeps hk fun c hg hf => h3 c hf hg, h6.trans (hk.below hz fun c _ e => h1 c e)⟩
  · rcases hF c hc with h | h
    · exact h1 c h
    · omega
  · rcases hF c hf with h | h
    · exact h3 c h hg
    · have := h5.lt c hg
      omega
theorem Two.op' {f : FuncId} {args : Array Value} {r : Value} {br1 : Bool} {v1 : View} (h : Two W w b m br v b' m' br' v') (hc : ∀ F, Wv F w b' m' br' v' → Calls Try.prog f args w (VPost F w b' m' br1 v1 r)) : Calls Try.prog f args w fun e w' => e = .returned r ∧ Two W w' b m br v b' m' br1 v1 := by
  refine (h.swap.op hc).mono ?_
  rintro e w1 ⟨rfl, h1⟩
  exact ⟨rfl, h1.swap⟩
theorem One.ask {f : FuncId} {args : Array Value} {Q : Ending → World → Prop} (h : One W w b m br v) (hc : ∀ F, Wv F w b m br v → Calls Try.prog f args w Q) : Calls Try.prog f args w Q := by
  obtain ⟨F, h1, h2, h3⟩ := h
  exact hc F h2
theorem Two.ask {f : FuncId} {args : Array Value} {Q : Ending → World → Prop} (h : Two W w b m br v b' m' br' v') (hc : ∀ F, Wv F w b m br v → Calls Try.prog f args w Q) : Calls Try.prog f args w Q := by
  obtain ⟨F, G, _, _, _, h4, _⟩ := h
  exact hc F h4
def NewOne (W : World) (e : Ending) (w' : World) : Prop := ∃ b m, e = .returned (.pointer (some ⟨b, 0, none⟩)) ∧ One W w' b m false []
def NewTwo (W : World) (b m : Nat) (br : Bool) (v : View) (e : Ending) (w' : World) : Prop := ∃ b' m', e = .returned (.pointer (some ⟨b', 0, none⟩)) ∧ Two W w' b m br v b' m' false []
theorem oneNew (h : Below W.heap.size W w) : Calls Try.prog 7 #[] w (NewOne W) := by
  refine (newW_any w).mono ?_
  rintro e w1 ⟨b, m, rfl, h1, h2⟩
  have hz := h.size
  exact ⟨b, m, rfl, _, fun c hc => by have := hc.1; omega, ⟨_, rfl, h1⟩, below_call' h h2⟩
theorem twoNew (h : One W w b m br v) : Calls Try.prog 7 #[] w (NewTwo W b m br v) := by
  obtain ⟨F, h1, h2, h3⟩ := h
  refine (newW_any w).mono ?_
  rintro e w1 ⟨b', m', rfl, g1, g2⟩
  have hz := h3.size
  exact ⟨b', m', rfl, F, _, h1, fun c hc => by have := hc.1; omega, fun c hf hc => by have := h2.lt c hf; have := hc.1; omega, h2.keeps (Keeps.of_below g2 (fun _ => False)) fun _ _ e => e, ⟨_, rfl, g1⟩, below_call' h3 g2⟩
end

/-- The document's page of a frame. -/
def pgD (k : Int) : Dsc := ⟨3, k, true, false, false, false, 0⟩
theorem page_any (k : Int) (w : World) (h : mayD 3 (pgD k) = true) : Calls Try.prog 19 #[.int .i64 k] w fun e w' => e = .returned (.int .u64 ((wordD (pgD k) : Nat) : Int)) ∧ Below w.heap.size w w' := by
  have hw := fun w => refWord_any 3 (pgD k) w h
  generalize wordD (pgD k) = x at *
  unfold dv pgD at hw
  simp only at hw
  clear h
  go_enter Try.func19, Try.ntmps19
  go_wp2_with fail
  refine (hw _).mono ?_
  rintro e w1 ⟨rfl, hb⟩
  go_wp2
  go_ret
  exact ⟨rfl, hb⟩
theorem pg2_may : mayD 3 (pgD 2) = true := by decide +kernel
theorem pg3_may : mayD 3 (pgD 3) = true := by decide +kernel
theorem pg2_lt : wordD (pgD 2) < 18446744073709551616 := by decide +kernel
theorem pg3_lt : wordD (pgD 3) < 18446744073709551616 := by decide +kernel
theorem pg2_v : validB (wordD (pgD 2)) = true := by decide +kernel
theorem pg3_v : validB (wordD (pgD 3)) = true := by decide +kernel
theorem pg_ch : changeB 3 (wordD (pgD 2)) (wordD (pgD 3)) = false := by decide +kernel
theorem ex_may : mayW 1 3 5 0 8 = true := by decide +kernel
theorem ex_broke : brokeV false [] 3 5 0 (wordD (pgD 2)) (wordD (pgD 3)) = true := by
  simp [brokeV, pg_ch]
theorem ex_wr : writeV [] 1 3 5 0 8 (wordD (pgD 2)) (wordD (pgD 3)) = [] := by
  simp [writeV, pg2_v, pg3_v]
theorem ex_open : brokeV false [] 3 5 0 (wordD (pgD 2)) 0 = false ∧ writeV [] 1 3 5 0 8 (wordD (pgD 2)) 0 = [((5, 0), ⟨1, 8, wordD (pgD 2), [false]⟩)] := by
  have h0 : validB 0 = false := by decide
  have hc : changeB 3 (wordD (pgD 2)) 0 = true := change_zero _ _
  constructor
  · simp [brokeV, pg2_v, hc]
  · simp [writeV, pg2_v, h0, putL, manyN]
theorem ex_told : toldV 1 8 [((5, 0), ⟨1, 8, wordD (pgD 2), [false]⟩)] = [] := by
  simp [toldV, tellV, tellT, leftN]
theorem ex_close : brokeV false [] 3 5 0 0 (wordD (pgD 3)) = false ∧ writeV [] 1 3 5 0 8 0 (wordD (pgD 3)) = [] := by
  have h0 : validB 0 = false := by decide
  have hc : changeB 3 0 (wordD (pgD 3)) = true := change_from0 _ _
  constructor
  · simp [brokeV, hc, clashV, getL]
  · simp [writeV, pg3_v, h0, delL]

set_option maxHeartbeats 1000000 in
theorem upW_any (w : World) : Calls Try.prog 6 #[] w fun e w' => e = .returned (.bool true) ∧ Below w.heap.size w w' := by
  have p2 := fun w => page_any 2 w pg2_may
  have p3 := fun w => page_any 3 w pg3_may
  have H1 : Hid (∀ (w1 : World) (b m b' m' : Nat), Two w w1 b m false [] b' m' false [] → Calls Try.prog 9 #[.pointer (some ⟨b, 0, none⟩), .int .i64 1, .int .i64 3, .int .i64 5, .int .i64 0, .int .i64 8, .int .u64 ((wordD (pgD 2) : Nat) : Int), .int .u64 ((wordD (pgD 3) : Nat) : Int)] w1 fun e w' => e = .returned .nilIface ∧ Two w w' b m true [] b' m' false []) := by
    intro w1 b m b' m' h
    have := h.op fun F hF => vWrite hF 1 3 5 0 8 (wordD (pgD 2)) (wordD (pgD 3)) pg2_lt pg3_lt ex_may
    rwa [ex_broke, ex_wr] at this
  have H2 : Hid (∀ (w1 : World) (b m b' m' : Nat), Two w w1 b m true [] b' m' false [] → Calls Try.prog 9 #[.pointer (some ⟨b', 0, none⟩), .int .i64 1, .int .i64 3, .int .i64 5, .int .i64 0, .int .i64 8, .int .u64 ((wordD (pgD 2) : Nat) : Int), .int .u64 0] w1 fun e w' => e = .returned .nilIface ∧ Two w w' b m true [] b' m' false [((5, 0), ⟨1, 8, wordD (pgD 2), [false]⟩)]) := by
    intro w1 b m b' m' h
    have := h.op' fun F hF => vWrite hF 1 3 5 0 8 (wordD (pgD 2)) 0 pg2_lt (by decide) ex_may
    rwa [ex_open.1, ex_open.2] at this
  have H3 : Hid (∀ (w1 : World) (b m b' m' : Nat), Two w w1 b m true [] b' m' false [((5, 0), ⟨1, 8, wordD (pgD 2), [false]⟩)] → Calls Try.prog 12 #[.pointer (some ⟨b', 0, none⟩), .int .i64 1, .int .i64 8] w1 fun e w' => e = .returned (.tuple #[]) ∧ Two w w' b m true [] b' m' false []) := by
    intro w1 b m b' m' h
    have := h.op' fun F hF => vTold hF 1 8
    rwa [ex_told] at this
  have H4 : Hid (∀ (w1 : World) (b m b' m' : Nat), Two w w1 b m true [] b' m' false [] → Calls Try.prog 9 #[.pointer (some ⟨b', 0, none⟩), .int .i64 1, .int .i64 3, .int .i64 5, .int .i64 0, .int .i64 8, .int .u64 0, .int .u64 ((wordD (pgD 3) : Nat) : Int)] w1 fun e w' => e = .returned .nilIface ∧ Two w w' b m true [] b' m' false []) := by
    intro w1 b m b' m' h
    have := h.op' fun F hF => vWrite hF 1 3 5 0 8 0 (wordD (pgD 3)) (by decide) pg3_lt ex_may
    rwa [ex_close.1, ex_close.2] at this
  generalize wordD (pgD 2) = x2 at *
  generalize wordD (pgD 3) = x3 at *
  go_enter Try.func6, Try.ntmps6
  go_wp2_with fail
  refine (oneNew (Below.refl w.heap.size w)).mono ?_
  rintro e w1 ⟨b, m, rfl, h1⟩
  have G1 : Hid (One w w1 b m false []) := h1
  clear h1
  go_wp2_with fail
  refine (twoNew G1.out).mono ?_
  rintro e w2 ⟨b', m', rfl, h2⟩
  have G2 : Hid (Two w w2 b m false [] b' m' false []) := h2
  clear h2 G1
  go_wp2_with fail
  refine (p2 _).mono ?_
  rintro e w3 ⟨rfl, hb⟩
  have G3 : Hid (Two w w3 b m false [] b' m' false []) := G2.out.below hb
  clear hb G2
  go_wp2_with fail
  refine (p3 _).mono ?_
  rintro e w4 ⟨rfl, hb⟩
  have G4 : Hid (Two w w4 b m false [] b' m' false []) := G3.out.below hb
  clear hb G3
  go_wp2_with fail
  refine (H1.out _ _ _ _ _ G4.out).mono ?_
  rintro e w5 ⟨rfl, h5⟩
  have G5 : Hid (Two w w5 b m true [] b' m' false []) := h5
  clear h5 G4 H1
  go_wp2_with fail
  refine (p2 _).mono ?_
  rintro e w6 ⟨rfl, hb⟩
  have G6 : Hid (Two w w6 b m true [] b' m' false []) := G5.out.below hb
  clear hb G5
  go_wp2_with fail
  refine (H2.out _ _ _ _ _ G6.out).mono ?_
  rintro e w7 ⟨rfl, h7⟩
  have G7 : Hid (Two w w7 b m true [] b' m' false [((5, 0), ⟨1, 8, x2, [false]⟩)]) := h7
  clear h7 G6 H2
  go_wp2_with fail
  refine (H3.out _ _ _ _ _ G7.out).mono ?_
  rintro e w8 ⟨rfl, h8⟩
  have G8 : Hid (Two w w8 b m true [] b' m' false []) := h8
  clear h8 G7 H3
  go_wp2_with fail
  refine (p3 _).mono ?_
  rintro e w9 ⟨rfl, hb⟩
  have G9 : Hid (Two w w9 b m true [] b' m' false []) := G8.out.below hb
  clear hb G8
  go_wp2_with fail
  refine (H4.out _ _ _ _ _ G9.out).mono ?_
  rintro e w10 ⟨rfl, h10⟩
  have G10 : Hid (Two w w10 b m true [] b' m' false []) := h10
  have k1 := h10.ask fun F hF => vBroken hF
  have k2 := h10.swap.ask fun F hF => vBroken hF
  clear h10 G9 H4
  go_wp2_with fail
  refine k1.mono ?_
  rintro e w11 ⟨rfl, hw⟩
  obtain rfl := hw.symm
  clear hw
  go_wp2_with fail
  refine k2.mono ?_
  rintro e w11 ⟨rfl, hw⟩
  obtain rfl := hw.symm
  clear hw
  go_wp2
  go_ret
  exact ⟨rfl, G10.out.frame⟩
end Go.Proofs.Ytjijgpdfoilijaa
