/- AreaStays, walked. -/
import Derived.Test.YtaeodbeodacmaaaAApd
namespace Go.Proofs.Ytaeodbeodacmaaa
open Go.RowKit

/-- What is told, as a list, an error, and whether there is none. -/
def Told (M : List AAr) (u : Value) (w : World) (e : Ending) (w' : World) : Prop := ∃ ao c, e = .returned (.tuple #[.slice ao M.length c, u]) ∧ Hid (Row rAAr w.heap.size w' (.slice ao M.length c) M) ∧ Hid (Below w.heap.size w w')
theorem lR_len {r : Except Int (List AAr)} (h : ∀ M, r = .ok M → M.length ≤ 64) : (lR r).length ≤ 64 := by
  cases r with
  | ok M => exact h M rfl
  | error n => exact Nat.zero_le _
theorem FitS.len {f : Int → Option Pg} {r : Except Int (List AAr)} (h : FitS f r) : ∀ M, r = .ok M → M.length ≤ 64 := fun M e => by
  obtain ⟨T, _, ⟨h1, h2⟩ | ⟨_, h2⟩⟩ := h
  · rw [h2] at e
    cases e
    exact h1
  · rw [h2] at e
    cases e
theorem LayS.len {L : List AAr} {a b : Int} {f : Int → Option Pg} {r : Except Int (List AAr)} (h : LayS L a b f r) : ∀ M, r = .ok M → M.length ≤ 64 := by
  rcases h with ⟨_, h⟩ | ⟨_, h⟩
  · intro M e
    rw [h] at e
    cases e
  · exact h.len
theorem EachS.len {L : List AAr} {a b : Int} {t : Pg → Pg} {r : Except Int (List AAr)} (h : EachS L a b t r) : ∀ M, r = .ok M → M.length ≤ 64 := by
  rcases h with ⟨_, h⟩ | ⟨_, _, h⟩ | ⟨_, _, h⟩
  · intro M e
    rw [h] at e
    cases e
  · intro M e
    rw [h] at e
    cases e
  · exact h.len
def EqN (u : Value) (o : Bool) : Prop := (∀ w : World, (binOp .eql 25 u .nilIface).run Try.prog w = .ok (.bool o) w) ∧ ∀ (n : Nat) (w : World), (eqGuard .eql 25 (.tmp n) (.const .nilIface) u .nilIface).run Try.prog w = .ok () w
theorem eqn_uR (r : Except Int (List AAr)) : EqN (uR r) (oR r) := by
  refine ⟨eql_uR r, fun n w => ?_⟩
  cases r with
  | ok M => simp [uR, eqGuard]
  | error k => simp [uR, eqGuard]
theorem lay_told (L : List AAr) (a b : Int) (x y z : Bool) : ∃ M u o, M.length ≤ 64 ∧ EqN u o ∧ ∀ w ao c, Sn rAAr w ao L → L.length ≤ maxLen → Calls Try.prog 20 #[.slice ao L.length c, .agg #[.int .i64 a, .int .i64 b, .bool x, .bool y, .bool z]] w (Told M u w) := by
  obtain ⟨r, s, q⟩ := lay_tell L ⟨a, b, x, y, z⟩
  exact ⟨lR r, uR r, oR r, lR_len s.len, eqn_uR r, fun w ao c hs hm => (q w ao c hs hm).mono fun e w' h => h.any⟩
theorem cut_told (L : List AAr) (a b : Int) : ∃ M u o, M.length ≤ 64 ∧ EqN u o ∧ ∀ w ao c, Sn rAAr w ao L → L.length ≤ maxLen → Calls Try.prog 21 #[.slice ao L.length c, .int .i64 a, .int .i64 b] w (Told M u w) := by
  obtain ⟨r, s, q⟩ := cut_tell L a b
  exact ⟨lR r, uR r, oR r, lR_len s.len, eqn_uR r, fun w ao c hs hm => (q w ao c hs hm).mono fun e w' h => h.any⟩
theorem change_told (L : List AAr) (a b : Int) (x y : Bool) : ∃ M u o, M.length ≤ 64 ∧ EqN u o ∧ ∀ w ao c, Sn rAAr w ao L → L.length ≤ maxLen → Calls Try.prog 24 #[.slice ao L.length c, .int .i64 a, .int .i64 b, .agg #[.bool x, .bool y]] w (Told M u w) := by
  obtain ⟨r, s, q⟩ := change_tell L a b x y
  exact ⟨lR r, uR r, oR r, lR_len s.len, eqn_uR r, fun w ao c hs hm => (q w ao c hs hm).mono fun e w' h => h.any⟩
theorem advise_told (L : List AAr) (a b : Int) (x : Bool) : ∃ M u o, M.length ≤ 64 ∧ EqN u o ∧ ∀ w ao c, Sn rAAr w ao L → L.length ≤ maxLen → Calls Try.prog 25 #[.slice ao L.length c, .int .i64 a, .int .i64 b, .bool x] w (Told M u w) := by
  obtain ⟨r, s, q⟩ := advise_tell L a b x
  exact ⟨lR r, uR r, oR r, lR_len s.len, eqn_uR r, fun w ao c hs hm => (q w ao c hs hm).mono fun e w' h => h.any⟩
/-- Two answers that are the same, in a world behind W. -/
theorem same_at {W W1 : World} {a1 a2 : Option Addr} {c1 c2 : Nat} {M : List AAr} (h1 : Hid (Sn rAAr W a1 M)) (h2 : Hid (Sn rAAr W a2 M ∧ M.length ≤ 64)) (hb : Hid (Below W.heap.size W W1)) :
    Calls Try.prog 28 #[.slice a1 M.length c1, .slice a2 M.length c2] W1 fun e w' => e = .returned (.bool true) ∧ Hid (Below W.heap.size W w') :=
  (same_self (h1.out.below hb.out) (h2.out.1.below hb.out) (by have := h2.out.2; unfold maxLen; omega)).mono fun e w' ⟨h, hb'⟩ => ⟨h, below_call' hb.out hb'⟩
theorem Row.empty {w : World} {B : Nat} (hB : B ≤ w.heap.size) : Row rAAr B (w.alloc (.cells #[] 32)) (.slice (some ⟨w.heap.size, 0, none⟩) 0 0) [] :=
  Row.of_cells (l' := []) (cur := #[]) hB (heap_alloc_new w _) (Nat.zero_le _) (Nat.zero_le _) (by simp) (fun k hk => absurd hk (Nat.not_lt_zero _))
/-- One's own list, and what else lies there. -/
def OwnW (B : Nat) (W : World) (ao : Option Addr) (n c : Nat) : Prop := ∃ Li : List AAr, Li.length = n ∧ Row rAAr B W (.slice ao n c) Li
def ownB (ao : Option Addr) (b : Nat) : Prop := ∃ a, ao = some a ∧ a.block = b

set_option maxRecDepth 100000 in
set_option maxHeartbeats 16000000 in
theorem stays_any {w : World} {ao : Option Addr} {c : Nat} {L : List AAr} (hs : Sn rAAr w ao L) (hm : L.length ≤ maxLen) (dd : AAr) :
    Calls Try.prog 9 #[.slice ao L.length c, av dd] w fun e w' => e = .returned (.bool true) ∧ Below w.heap.size w w' := by
  obtain ⟨a, b, x2, x3, x4⟩ := dd
  obtain ⟨M1, v1, o1, l1, eq1, q1⟩ := lay_told L a b x2 x3 x4
  obtain ⟨M2, v2, o2, l2, eq2, q2⟩ := change_told L a b x2 x3
  obtain ⟨M3, v3, o3, l3, eq3, q3⟩ := advise_told L a b x4
  obtain ⟨M4, v4, o4, l4, eq4, q4⟩ := cut_told L a b
  have LL : Hid (M1.length ≤ 64 ∧ M2.length ≤ 64 ∧ M3.length ≤ 64 ∧ M4.length ≤ 64) := ⟨l1, l2, l3, l4⟩
  have EE : Hid (EqN v1 o1 ∧ EqN v2 o2 ∧ EqN v3 o3 ∧ EqN v4 o4) := ⟨eq1, eq2, eq3, eq4⟩
  clear l1 l2 l3 l4 eq1 eq2 eq3 eq4
  have H0 : Hid (Bx1 w (w.alloc (.cells (AAr.arr ⟨a, b, x2, x3, x4⟩) 32)) ⟨a, b, x2, x3, x4⟩) := Bx1.new w _
  have hU := up_any (w.alloc (.cells (AAr.arr ⟨a, b, x2, x3, x4⟩) 32))
  unfold AAr.arr at H0 hU
  unfold av
  simp only at H0 hU ⊢
  have HS : Hid (Sn rAAr w ao L) := hs
  have HM : Hid (L.length ≤ maxLen) := hm
  have hm' : L.length ≤ 9223372036854775807 := by unfold maxLen at hm; omega
  clear hs hm
  by_cases h200 : L.length ≤ 200
  · have h200z : ¬ (200 : Int) < (L.length : Int) := by omega
    have HM2 : Hid (L.length ≤ 200) := h200
    clear h200
    go_enter Try.func9, Try.ntmps9
    go_wp2_with fail
    refine hU.mono ?_
    rintro e w1 ⟨rfl, hb1⟩
    have H1 : Hid (Bx1 w w1 ⟨a, b, x2, x3, x4⟩) := H0.out.below hb1
    have HS1 : Hid (Sn rAAr w1 ao L) := HS.out.below H1.out.1
    clear hU hb1 H0 HS
    have HE : Hid (Row rAAr w1.heap.size (w1.alloc (.cells #[] 32)) (.slice (some ⟨w1.heap.size, 0, none⟩) 0 0) []) := Row.empty (Nat.le_refl _)
    go_wp2_with (at_builtin; refine list_appS rfl _ _ rfl w1.heap.size _ [] L rfl HE.out ao L.length c rfl rfl (HS1.out.below (new_below _ _)) ?a3 ?a4 ?_)
    case a3 => have := HM2.out; simp; omega
    case a4 => simp
    intro v' w2 hrow hgrow
    have hrow : Row rAAr w1.heap.size w2 v' L := hrow
    obtain ⟨ao', c', rfl⟩ := hrow.form
    have HB2 : Hid (Below w1.heap.size w1 w2) := (new_below w1 (.cells #[] 32)).grown hgrow (by simp) (fun k hk => by cases hk; exact Nat.le_refl _)
    have H2 : Hid (Bx1 w w2 ⟨a, b, x2, x3, x4⟩) := H1.out.below HB2.out
    have HO2 : Hid (Row rAAr w1.heap.size w2 (.slice ao' L.length c') L) := hrow
    have HML : Hid (L.length ≤ maxLen) := HM
    clear hrow hgrow HE
    -- one's own list, four times
    obtain ⟨z0, z1, z2, z3, z4⟩ := AAr.laid (d := ⟨a, b, x2, x3, x4⟩) (H2.out.2.1)
    simp only at z0 z1 z2 z3 z4
    go_wp2_with fail
    refine (q1 w2 ao' c' HO2.out.sn HM.out).mono ?_
    rintro e w3 ⟨b1, k1, rfl, X, hb⟩
    have HB3 : Hid (Below w2.heap.size w2 w3) := hb.out
    have XA3 : Hid (Row rAAr w2.heap.size w3 (.slice b1 M1.length k1) M1) := X.out
    have H3 : Hid (Bx1 w w3 ⟨a, b, x2, x3, x4⟩) := H2.out.below HB3.out
    clear z0 z1 z2 z3 z4 X hb H2
    obtain ⟨z0, z1, z2, z3, z4⟩ := AAr.laid (d := ⟨a, b, x2, x3, x4⟩) (H3.out.2.1)
    simp only at z0 z1 z2 z3 z4
    go_wp2_with fail
    refine (q2 w3 ao' c' (HO2.out.sn.below HB3.out) HM.out).mono ?_
    rintro e w4 ⟨b2, k2, rfl, X, hb⟩
    have HB4 : Hid (Below w2.heap.size w2 w4) := below_call' HB3.out hb.out
    have XA4 : Hid (Row rAAr w2.heap.size w4 (.slice b1 M1.length k1) M1) := XA3.out.below hb.out
    have XB4 : Hid (Row rAAr w2.heap.size w4 (.slice b2 M2.length k2) M2) := X.out.lower HB3.out.size
    have H4 : Hid (Bx1 w w4 ⟨a, b, x2, x3, x4⟩) := H3.out.below hb.out
    clear z0 z1 z2 z3 z4 X hb H3 XA3 HB3
    obtain ⟨z0, z1, z2, z3, z4⟩ := AAr.laid (d := ⟨a, b, x2, x3, x4⟩) (H4.out.2.1)
    simp only at z0 z1 z2 z3 z4
    go_wp2_with fail
    refine (q3 w4 ao' c' (HO2.out.sn.below HB4.out) HM.out).mono ?_
    rintro e w5 ⟨b3, k3, rfl, X, hb⟩
    have HB5 : Hid (Below w2.heap.size w2 w5) := below_call' HB4.out hb.out
    have XA5 : Hid (Row rAAr w2.heap.size w5 (.slice b1 M1.length k1) M1) := XA4.out.below hb.out
    have XB5 : Hid (Row rAAr w2.heap.size w5 (.slice b2 M2.length k2) M2) := XB4.out.below hb.out
    have XC5 : Hid (Row rAAr w2.heap.size w5 (.slice b3 M3.length k3) M3) := X.out.lower HB4.out.size
    have H5 : Hid (Bx1 w w5 ⟨a, b, x2, x3, x4⟩) := H4.out.below hb.out
    clear z0 z1 z2 z3 z4 X hb H4 XA4 XB4 HB4
    obtain ⟨z0, z1, z2, z3, z4⟩ := AAr.laid (d := ⟨a, b, x2, x3, x4⟩) (H5.out.2.1)
    simp only at z0 z1 z2 z3 z4
    go_wp2_with fail
    refine (q4 w5 ao' c' (HO2.out.sn.below HB5.out) HM.out).mono ?_
    rintro e w6 ⟨b4, k4, rfl, X, hb⟩
    have HB6 : Hid (Below w2.heap.size w2 w6) := below_call' HB5.out hb.out
    have XA6 : Hid (Row rAAr w2.heap.size w6 (.slice b1 M1.length k1) M1) := XA5.out.below hb.out
    have XB6 : Hid (Row rAAr w2.heap.size w6 (.slice b2 M2.length k2) M2) := XB5.out.below hb.out
    have XC6 : Hid (Row rAAr w2.heap.size w6 (.slice b3 M3.length k3) M3) := XC5.out.below hb.out
    have XD6 : Hid (Row rAAr w2.heap.size w6 (.slice b4 M4.length k4) M4) := X.out.lower HB5.out.size
    have hsame := same_self (c1 := c') (c2 := c) (HO2.out.sn.below HB6.out) ((HS1.out.below HB2.out).below HB6.out) HM.out
    clear z0 z1 z2 z3 z4 X hb H5 XA5 XB5 XC5 HB5
    go_wp2_with fail
    refine hsame.mono ?_
    rintro e w7 ⟨rfl, hb⟩
    have HB7 : Hid (Below w2.heap.size w2 w7) := below_call' HB6.out hb
    have XX : Hid (Row rAAr w2.heap.size w7 (.slice b1 M1.length k1) M1 ∧ Row rAAr w2.heap.size w7 (.slice b2 M2.length k2) M2 ∧ Row rAAr w2.heap.size w7 (.slice b3 M3.length k3) M3 ∧ Row rAAr w2.heap.size w7 (.slice b4 M4.length k4) M4) := ⟨XA6.out.below hb, XB6.out.below hb, XC6.out.below hb, XD6.out.below hb⟩
    have HO7 : Hid (OwnW w1.heap.size w7 ao' L.length c') := ⟨L, rfl, HO2.out.below HB7.out⟩
    have HOL : Hid (∀ g, (Value.slice ao' L.length c').ownBlock = some g → w1.heap.size ≤ g ∧ g < w2.heap.size) := HO2.out.lt
    have HBa : Hid (Below w1.heap.size w1 w7) := below_call' HB2.out HB7.out
    clear hsame hb HB6 XA6 XB6 XC6 XD6 HO2
    -- one's own list, spoilt
    go_wp2
    go_loopw [15] (fun iv W => ∃ i : Nat, i ≤ L.length ∧ iv = .int .i64 i ∧ Hid (OwnW w1.heap.size W ao' L.length c') ∧ Hid (Keeps w7 W (fun b => (Value.slice ao' L.length c').ownBlock = some b))) (fun iv _ => L.length - (intOf iv).toNat)
    case atStart => exact ⟨0, Nat.zero_le _, rfl, HO7, Keeps.refl _ _⟩
    case round =>
      obtain ⟨i, hi, rfl, HOi, HK⟩ := hrel
      by_cases hik : i < L.length
      · have hikz : (i : Int) < (L.length : Int) := by omega
        clear HO7 q1 q2 q3 q4
        obtain ⟨Li, hLi, hRi⟩ := HOi.out
        obtain ⟨g, rfl, -, -, hgw, -, -, hat⟩ := hRi.at (show i < Li.length by omega)
        obtain ⟨p0, p1, p2, p3, p4⟩ := AAr.at hat
        simp only [show rAAr.n = 5 from rfl] at p0 p1 p2 p3 p4
        have hf := fun o => hRi.frozen o
        have HN : Hid (OwnW w1.heap.size (wr.setCells g (i * 5) [.int .i64 9, .int .i64 0, .bool false, .bool false, .bool false]) (some ⟨g, 0, none⟩) L.length c') := by
          have h := hRi.put i ⟨9, 0, false, false, false⟩ (show i < Li.length by omega)
          exact ⟨Li.set i ⟨9, 0, false, false, false⟩, by rw [List.length_set]; exact hLi, h⟩
        have HNK : Hid (Keeps w7 (wr.setCells g (i * 5) [.int .i64 9, .int .i64 0, .bool false, .bool false, .bool false]) (fun b => (Value.slice (some ⟨g, 0, none⟩) L.length c').ownBlock = some b)) :=
          HK.out.trans (Keeps.sets _ wr g (i * 5)) fun b _ e => by subst e; rfl
        clear hat hRi HOi HK XX HBa hLi
        go_wp2
        go_roundw
        case rel => exact ⟨i + 1, by omega, by go_num, HN, HNK⟩
        case measure => simp only [intOf]; omega
      · obtain rfl : i = L.length := by omega
        have HKB : Hid (Below w1.heap.size w1 wr) := HBa.out.trans (HK.out.below HBa.out.size fun g _ e => (HOL.out g e).1)
        have hne : ∀ {v : Value} {M : List AAr}, Row rAAr w2.heap.size w7 v M → ∀ g, v.ownBlock = some g → ¬ (Value.slice ao' L.length c').ownBlock = some g := fun h g e k => by
          have h1 := (h.lt g e).1
          have h2 := (HOL.out g k).2
          omega
        have YY : Hid (Sn rAAr wr b1 M1 ∧ Sn rAAr wr b2 M2 ∧ Sn rAAr wr b3 M3 ∧ Sn rAAr wr b4 M4) := ⟨(HK.out.row XX.out.1 (hne XX.out.1)).sn, (HK.out.row XX.out.2.1 (hne XX.out.2.1)).sn, (HK.out.row XX.out.2.2.1 (hne XX.out.2.2.1)).sn, (HK.out.row XX.out.2.2.2 (hne XX.out.2.2.2)).sn⟩
        have G0 : Hid (Bx1 w wr ⟨a, b, x2, x3, x4⟩) := H1.out.below HKB.out
        have HS0 : Hid (Sn rAAr wr ao L) := HS1.out.below HKB.out
        clear hne HKB HK HOi XX HBa HO7 HOL HB7
        obtain ⟨z0, z1, z2, z3, z4⟩ := AAr.laid (d := ⟨a, b, x2, x3, x4⟩) (G0.out.2.1)
        simp only at z0 z1 z2 z3 z4
        go_wp2_with fail
        refine (q1 wr ao c HS0.out HM.out).mono ?_
        rintro e g1 ⟨d1, j1, rfl, X, hb⟩
        have HC1 : Hid (Below wr.heap.size wr g1) := hb.out
        have DA1 : Hid (Sn rAAr g1 d1 M1) := X.out.sn
        have G1 : Hid (Bx1 w g1 ⟨a, b, x2, x3, x4⟩) := G0.out.below hb.out
        clear z0 z1 z2 z3 z4 X hb q1
        obtain ⟨z0, z1, z2, z3, z4⟩ := AAr.laid (d := ⟨a, b, x2, x3, x4⟩) (G1.out.2.1)
        simp only at z0 z1 z2 z3 z4
        go_wp2_with fail
        refine (q2 g1 ao c (HS0.out.below HC1.out) HM.out).mono ?_
        rintro e g2 ⟨d2, j2, rfl, X, hb⟩
        have HC2 : Hid (Below wr.heap.size wr g2) := below_call' HC1.out hb.out
        have DA2 : Hid (Sn rAAr g2 d1 M1 ∧ Sn rAAr g2 d2 M2) := ⟨DA1.out.below hb.out, X.out.sn⟩
        have G2 : Hid (Bx1 w g2 ⟨a, b, x2, x3, x4⟩) := G1.out.below hb.out
        clear z0 z1 z2 z3 z4 X hb q2 HC1 DA1 G1
        obtain ⟨z0, z1, z2, z3, z4⟩ := AAr.laid (d := ⟨a, b, x2, x3, x4⟩) (G2.out.2.1)
        simp only at z0 z1 z2 z3 z4
        go_wp2_with fail
        refine (q3 g2 ao c (HS0.out.below HC2.out) HM.out).mono ?_
        rintro e g3 ⟨d3, j3, rfl, X, hb⟩
        have HC3 : Hid (Below wr.heap.size wr g3) := below_call' HC2.out hb.out
        have DA3 : Hid (Sn rAAr g3 d1 M1 ∧ Sn rAAr g3 d2 M2 ∧ Sn rAAr g3 d3 M3) := ⟨DA2.out.1.below hb.out, DA2.out.2.below hb.out, X.out.sn⟩
        have G3 : Hid (Bx1 w g3 ⟨a, b, x2, x3, x4⟩) := G2.out.below hb.out
        clear z0 z1 z2 z3 z4 X hb q3 HC2 DA2 G2
        obtain ⟨z0, z1, z2, z3, z4⟩ := AAr.laid (d := ⟨a, b, x2, x3, x4⟩) (G3.out.2.1)
        simp only at z0 z1 z2 z3 z4
        go_wp2_with fail
        refine (q4 g3 ao c (HS0.out.below HC3.out) HM.out).mono ?_
        rintro e g4 ⟨d4, j4, rfl, X, hb⟩
        have HC4 : Hid (Below wr.heap.size wr g4) := below_call' HC3.out hb.out
        have DA4 : Hid (Sn rAAr g4 d1 M1 ∧ Sn rAAr g4 d2 M2 ∧ Sn rAAr g4 d3 M3 ∧ Sn rAAr g4 d4 M4) := ⟨DA3.out.1.below hb.out, DA3.out.2.1.below hb.out, DA3.out.2.2.below hb.out, X.out.sn⟩
        have DB4 : Hid (Sn rAAr g4 b1 M1 ∧ Sn rAAr g4 b2 M2 ∧ Sn rAAr g4 b3 M3 ∧ Sn rAAr g4 b4 M4) := ⟨YY.out.1.below HC4.out, YY.out.2.1.below HC4.out, YY.out.2.2.1.below HC4.out, YY.out.2.2.2.below HC4.out⟩
        have G4 : Hid (Below w.heap.size w g4) := (G3.out.below hb.out).1
        obtain ⟨⟨e1, f1⟩, ⟨e2, f2⟩, ⟨e3, f3⟩, ⟨e4, f4⟩⟩ := EE.out
        have t1 : (o1 == o1) = true := beq_self_eq_true _
        have t2 : (o2 == o2) = true := beq_self_eq_true _
        have t3 : (o3 == o3) = true := beq_self_eq_true _
        have t4 : (o4 == o4) = true := beq_self_eq_true _
        obtain ⟨ya1, ya2, ya3, ya4⟩ := DA4.out
        obtain ⟨yb1, yb2, yb3, yb4⟩ := DB4.out
        obtain ⟨yl1, yl2, yl3, yl4⟩ := LL.out
        have YA1 : Hid (Sn rAAr g4 d1 M1 ∧ M1.length ≤ 64) := ⟨ya1, yl1⟩
        have YA2 : Hid (Sn rAAr g4 d2 M2 ∧ M2.length ≤ 64) := ⟨ya2, yl2⟩
        have YA3 : Hid (Sn rAAr g4 d3 M3 ∧ M3.length ≤ 64) := ⟨ya3, yl3⟩
        have YA4 : Hid (Sn rAAr g4 d4 M4 ∧ M4.length ≤ 64) := ⟨ya4, yl4⟩
        have YB1 : Hid (Sn rAAr g4 b1 M1) := yb1
        have YB2 : Hid (Sn rAAr g4 b2 M2) := yb2
        have YB3 : Hid (Sn rAAr g4 b3 M3) := yb3
        have YB4 : Hid (Sn rAAr g4 b4 M4) := yb4
        have KD : Hid (Below g4.heap.size g4 g4.drew) := (Below.refl _ _).drew
        clear ya1 ya2 ya3 ya4 yb1 yb2 yb3 yb4 yl1 yl2 yl3 yl4 LL DA4 DB4 EE
        clear z0 z1 z2 z3 z4 X hb q4 HC3 DA3 G3 HS0 YY G0 HC4 HS1 H1 HB2
        go_wp2
        go_region_held3 (fun _ => True) (trivial) (first | (go_at_call 28; refine (same_at (W := g4) ?q1 ?q2 ?q3).mono ?_; (case q1 => with_reducible assumption); (case q2 => with_reducible assumption); (case q3 => with_reducible assumption); rintro e mm ⟨rfl, kkb⟩))
        all_goals
          have HE4 : Hid (Below w.heap.size w mm) := below_call' G4.out kkb.out
          clear kkb YA1 YA2 YA3 YA4 YB1 YB2 YB3 YB4 KD e1 e2 e3 e4 f1 f2 f3 f4 t1 t2 t3 t4
          go_wp2
          go_ret
          exact ⟨rfl, HE4.out⟩
  · have h200z : (200 : Int) < (L.length : Int) := by omega
    clear q1 q2 q3 q4
    go_enter Try.func9, Try.ntmps9
    go_wp2_with fail
    refine hU.mono ?_
    rintro e w1 ⟨rfl, hb1⟩
    have H1 : Hid (Bx1 w w1 ⟨a, b, x2, x3, x4⟩) := H0.out.below hb1
    clear hU hb1 H0
    go_wp2
    go_ret
    exact ⟨rfl, H1.out.1⟩
theorem walk_areaStays (ao : Option Addr) (len cap : Nat) (D : Nat → AAr) (d : AAr) (w : World) (hm : len ≤ maxLen) (hL : Lst AAr.cells AAr.ok 5 w ao len D) (_ : d.ok) :
    Calls Try.prog 9 #[.slice ao len cap, .agg d.cells.toArray] w fun e w' => e = .returned (.bool true) ∧ Below w.heap.size w w' := by
  have h := stays_any (c := cap) hL.sn (by rw [lstN]; exact hm) d
  rwa [lstN] at h
end Go.Proofs.Ytaeodbeodacmaaa
