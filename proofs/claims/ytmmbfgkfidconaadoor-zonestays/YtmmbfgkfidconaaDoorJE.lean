/- Own texts, joined: UGive, UPick, UUp, UOw, YTake, YClone, YOps, YOps2, YOps3, YPick, YZn, YUp. -/
import Derived.Test.YtmmbfgkfidconaaDoorJD
import Derived.Test.YtmmbfgkfidconaaDoorJA
import Derived.Test.YtmmbfgkfidconaaDoorJC
import Derived.Test.YtmmbfgkfidconaaDoorJB
import Derived.Lib.Slices
import Derived.Deep.RegionLaw
/- What (*buddy.Store).Give does. -/
namespace Go.Proofs.YtmmbfgkfidconaaDoor
open Go.RowKit

theorem upTo_meets {L : List Bk} (g : Good L) (b : Bk) : upTo L (behind L b.1) ((bend b : Nat) - 1 : Int) = false ↔ allB L b false := by
  have hb := bend_pos b
  have hm := g.meets_iff b.1 (bend b) hb
  have e : upTo L (behind L b.1) ((bend b : Nat) - 1 : Int) = true ↔ ∃ c, L[behind L b.1]? = some c ∧ c.1 < bend b := by
    unfold upTo
    cases h : L[behind L b.1]? with
    | none => simp
    | some c =>
      simp only [decide_eq_true_eq, Option.some.injEq, exists_eq_left']
      omega
  rw [← hm] at e
  constructor
  · intro h x hx
    rw [covB_false]
    intro hc
    have := e.2 ⟨x, hx.1, hx.2, hc⟩
    rw [h] at this
    cases this
  · intro h
    cases h2 : upTo L (behind L b.1) ((bend b : Nat) - 1 : Int) with
    | false => rfl
    | true =>
      obtain ⟨x, h3, h4, h5⟩ := e.1 h2
      have := h x ⟨h3, h4⟩
      rw [(covB_iff _ _).2 h5] at this
      cases this

/-- Give's answers. -/
def GiveP (F : Nat → Prop) (w : World) (p n : Nat) (L : List Bk) (b : Bk) (e : Ending) (w' : World) : Prop :=
  (allB L b false → e = .returned .nilIface ∧ ∃ L', SP F w p n L' w' ∧ Okl n L' ∧ ∀ x, cov L' x ↔ cov L x ∨ inB b x) ∧ (¬ allB L b false → e = .returned (.iface 28 (.int .i64 7)) ∧ Below w.heap.size w w')
set_option maxHeartbeats 2000000 in
theorem give_no {F : Nat → Prop} {w : World} {p n : Nat} {v : Value} {L : List Bk} (hs : Sto F w p n v L) (ho : Okl n L) (z o : Int) (hz : -9223372036854775808 ≤ z ∧ z ≤ 9223372036854775807) (h : hasB n z o = false) :
    Calls Tryd.prog 39 #[.pointer (some ⟨p, 0, none⟩), .int .i64 z, .int .i64 o] w fun e w' => e = .returned (.iface 28 (.int .i64 1)) ∧ Below w.heap.size w w' := by
  have hH := hasBlock_any hs ho.max z o hz
  rw [h] at hH
  clear hs ho h
  go_enter Tryd.func39, Tryd.ntmps39
  go_wp2_with fail
  refine hH.mono ?_
  rintro e w1 ⟨rfl, hb⟩
  go_wp2
  go_ret
  exact ⟨rfl, hb⟩

/-- What the last statement leaves: the row that Insert told, and what storing it makes. -/
def InsP (F : Nat → Prop) (w : World) (p n A : Nat) (v : Value) (x1 x2 : Int) (L' : List Bk) (e : Ending) (w5 : World) : Prop :=
  ∃ ao' n' c', e = .returned (.slice ao' n' c') ∧ w5.cell? ⟨p, 1, none⟩ = some v ∧ w5.frozen? ⟨p, 1, none⟩ = false ∧ w5.cell? ⟨A, 0, none⟩ = some (.int .i64 x1) ∧ w5.cell? ⟨A, 1, none⟩ = some (.int .i64 x2) ∧ SP F w p n L' (w5.setCell ⟨p, 1, none⟩ (.slice ao' n' c'))
theorem insP_any {F : Nat → Prop} {W : World} {p n : Nat} {v : Value} {L : List Bk} {A : Nat} {x1 x2 : Int} (hs : Sto F W p n v L) (hA0 : W.cell? ⟨A, 0, none⟩ = some (.int .i64 x1)) (hA1 : W.cell? ⟨A, 1, none⟩ = some (.int .i64 x2)) (hvA : v.ownBlock ≠ some A) (hlen : L.length ≤ 512) (i : Nat) (hi : i ≤ L.length) (x : Bk) :
    ∀ (w4 : World) (q : Nat), Below W.heap.size W w4 → W.heap.size ≤ q → Row rB 0 w4 (.slice (some ⟨q, 0, none⟩) 1 1) [x] →
      Calls Tryd.prog 55 #[v, .int .i64 i, .slice (some ⟨q, 0, none⟩) 1 1] w4 (InsP F W p n A v x1 x2 (L.take i ++ ([x] ++ L.drop i))) := by
  intro w4 q hb hq hr
  have h4 := hs.below hb
  have hlt := World.block_lt_of_cell? W _ hA0
  refine (insert_rB (M := [x]) h4.row hr (fun e => ?_) (by simp) (by simp; omega) (Nat.zero_le _) i hi).mono ?_
  · have := hs.lt q (hs.fv q e)
    omega
  · rintro e w5 ⟨v', rfl, h1, h2, h3⟩
    obtain ⟨ao', c', rfl⟩ := h1.form
    obtain ⟨y1, y2, y3⟩ := hs.turn hb h1 h2 h3
    refine ⟨_, _, _, rfl, y1, y2, ?_, ?_, y3⟩
    · rw [h2.cell (Nat.lt_of_lt_of_le hlt hb.size) hvA, (bcell hb).1 A 0 hlt]
      exact hA0
    · rw [h2.cell (Nat.lt_of_lt_of_le hlt hb.size) hvA, (bcell hb).1 A 1 hlt]
      exact hA1

/-- A row of one, as it is laid. -/
theorem row_one_new (w : World) (b : Bk) : Row rB 0 (w.alloc (.cells #[.int .i64 b.1, .int .i64 b.2] 56)) (.slice (some ⟨w.heap.size, 0, none⟩) 1 1) [b] := by
  have := Row.of_cells (R := rB) (B := 0) (l' := [b]) (c := 1) (cur := #[.int .i64 b.1, .int .i64 b.2]) (Nat.zero_le _) (heap_alloc_new w _) (by simp) (by unfold maxLen; omega) (by rfl) (fun k hk j hj => by
    simp at hk
    subst hk
    have hj' : j < 2 := hj
    match j, hj' with
    | 0, _ => rfl
    | 1, _ => rfl)
  exact this
/-- Four ways one behind the other. -/
theorem SP.chain {F : Nat → Prop} {w w3 w5 w6 w7 : World} {p n A : Nat} {L : List Bk} (h1 : Below w.heap.size w w3) (h2 : Keeps w3 w5 F) (h3 : Keeps w5 w6 (fun b => b = A)) (hA : w.heap.size ≤ A) (hF : ∀ c, F c → c < w.heap.size) (h : SP (nw F w3 w5) w6 p n L w7) : SP F w p n L w7 := by
  obtain ⟨v, g1, g2⟩ := h
  have s1 := h1.size
  have s2 := h2.size
  have s3 := h3.size
  have s4 := g2.size
  have up : ∀ c, nw (nw F w3 w5) w6 w7 c → nw F w w7 c := fun c hc => by
    rcases hc with (hc | hc) | hc
    · exact Or.inl hc
    · exact Or.inr (by omega)
    · exact Or.inr (by omega)
  refine ⟨v, ⟨g1.laid, g1.row, up _ g1.fp, fun g hg => up _ (g1.fv g hg), fun c hc => ?_⟩, ?_⟩
  · rcases hc with hc | hc
    · have := hF c hc
      omega
    · exact hc.2
  · refine (((Keeps.of_below h1 F).trans h2 fun _ _ e => e).trans h3 fun b hb e => by omega).trans g2 fun b hb e => ?_
    rcases e with e | e
    · exact e
    · omega

set_option maxRecDepth 100000 in
set_option maxHeartbeats 4000000 in
theorem give_any {F : Nat → Prop} {w : World} {p n : Nat} {v : Value} {L : List Bk} (hs : Sto F w p n v L) (ho : Okl n L) (b : Bk) (hb : alB b) (hbn : bend b ≤ n) :
    Calls Tryd.prog 39 #[.pointer (some ⟨p, 0, none⟩), .int .i64 b.1, .int .i64 b.2] w (GiveP F w p n L b) := by
  have hmx := ho.max
  have hbp := bend_pos b
  have hH := hasBlock_any hs ho.max b.1 b.2 (by omega)
  rw [hasB_of hb hbn] at hH
  have HU : Hid (upTo L (behind L b.1) ((bend b : Nat) - 1 : Int) = false ↔ allB L b false) := upTo_meets ho.good b
  have HS : Hid (Sto F w p n v L) := hs
  have HO : Hid (Okl n L) := ho
  have HA : Hid (alB b) := hb
  have HJ0 : Hid (allB L b false → Jn n L b L b) := fun hall => ⟨ho, hb, hbn, fun x hx hc => (by have := hall x hx; rw [(covB_iff _ _).2 hc] at this; cases this), fun x => Iff.rfl⟩
  have hE1 := fun w => end_any b w (by omega) (Nat.le_trans hb.1 (by decide))
  unfold bval at hE1
  clear hs ho hb
  go_enter Tryd.func39, Tryd.ntmps39
  go_wp2_with fail
  refine hH.mono ?_
  rintro e w1 ⟨rfl, hb1⟩
  have hbW : Below w.heap.size w (w1.alloc (.cells #[.int .i64 b.1, .int .i64 b.2] 56)) := hb1.alloc hb1.size _
  have hlW := Laid.new w1 56 #[.int .i64 b.1, .int .i64 b.2]
  have hz1 : w.heap.size ≤ w1.heap.size := hb1.size
  have HBW : Hid (Below w.heap.size w (w1.alloc (.cells #[.int .i64 b.1, .int .i64 b.2] 56))) := hbW
  have HLW : Hid (Laid (w1.alloc (.cells #[.int .i64 b.1, .int .i64 b.2] 56)) w1.heap.size 56 #[.int .i64 b.1, .int .i64 b.2]) := hlW
  clear hb1 hbW hlW hH
  go_wp2
  go_name_world W hW
  have BW : Below w.heap.size w W := by rw [← hW]; exact HBW.out
  have LW : Laid W w1.heap.size 56 #[.int .i64 b.1, .int .i64 b.2] := by rw [← hW]; exact HLW.out
  have SW := HS.out.below BW
  have hEB := endsBehind_any (SW.below (Below.refl _ _).drew) HO.out b.1
  rw [Int.toNat_natCast] at hEB
  have hUB := fun w' (h : Below W.heap.size W w') => beginsUpTo_any (SW.below h) (behind L b.1) ((bend b : Nat) - 1 : Int)
  have m0 := LW.cell 0
  have m1 := LW.cell 1
  have mz := LW.lt
  simp at m0 m1
  generalize hAe : w1.heap.size = A at *
  have HBW2 : Hid (Below w.heap.size w W) := BW
  have HLW2 : Hid (Laid W A 56 #[.int .i64 b.1, .int .i64 b.2]) := LW
  have hpA : ¬ (p = A) := by have := HS.out.lt p HS.out.fp; omega
  have hwA : w.heap.size ≤ A := hz1
  generalize bend b = eb at *
  generalize behind L b.1 = i at *
  have hbb : (eb : Int) ≤ 512 := by omega
  have hw : IntKind.i64.wrap ((eb : Int) - 1) = (eb : Int) - 1 := by rw [IntKind.wrap_i64]; omega
  have hUB' : Hid _ := hUB
  clear hUB hW BW LW SW HBW HLW hAe hz1
  cases hu : upTo L i ((eb : Nat) - 1 : Int) with
  | true =>
    rw [hu] at hUB' HU
    go_region_held3 (fun w' => w'.cell? ⟨A, 0, none⟩ = some (.int .i64 b.1) ∧ w'.cell? ⟨A, 1, none⟩ = some (.int .i64 b.2)) (go_keep)
      (first
      | (go_at_call 49; refine hEB.mono ?_; rintro e w2 ⟨rfl, hb2⟩; have hx2 : ∀ o, w2.cell? ⟨A, o, none⟩ = W.cell? ⟨A, o, none⟩ := (fun o => (bcell hb2).1 A o mz))
      | (go_at_call 53; refine (hE1 _).mono ?_; rintro e w3 ⟨rfl, hb3⟩; have hx3 : ∀ o, w3.cell? ⟨A, o, none⟩ = W.cell? ⟨A, o, none⟩ := (fun o => ((bcell hb3).1 A o (Nat.lt_of_lt_of_le mz hb2.size)).trans (hx2 o)))
      | (go_at_call 50; refine (hUB'.out _ (below_call' ((Below.refl _ _).drew.trans hb2) hb3)).mono ?_; rintro e w4 ⟨rfl, hw4⟩; obtain rfl := hw4.symm; clear hw4))
    have HB3 : Hid (Below w.heap.size w w3) := below_call' HBW2.out (below_call' ((Below.refl _ _).drew.trans hb2) hb3)
    clear hb2 hb3 hx2 hx3 hEB hUB' hE1
    go_wp2
    go_ret
    refine ⟨fun h => ?_, fun _ => ⟨rfl, HB3.out⟩⟩
    have := HU.out.2 h
    cases this
  | false =>
    rw [hu] at hUB' HU
    go_region_held3 (fun w' => w'.cell? ⟨A, 0, none⟩ = some (.int .i64 b.1) ∧ w'.cell? ⟨A, 1, none⟩ = some (.int .i64 b.2)) (go_keep)
      (first
      | (go_at_call 49; refine hEB.mono ?_; rintro e w2 ⟨rfl, hb2⟩; have hx2 : ∀ o, w2.cell? ⟨A, o, none⟩ = W.cell? ⟨A, o, none⟩ := (fun o => (bcell hb2).1 A o mz))
      | (go_at_call 53; refine (hE1 _).mono ?_; rintro e w3 ⟨rfl, hb3⟩; have hx3 : ∀ o, w3.cell? ⟨A, o, none⟩ = W.cell? ⟨A, o, none⟩ := (fun o => ((bcell hb3).1 A o (Nat.lt_of_lt_of_le mz hb2.size)).trans (hx2 o)))
      | (go_at_call 50; refine (hUB'.out _ (below_call' ((Below.refl _ _).drew.trans hb2) hb3)).mono ?_; rintro e w4 ⟨rfl, hw4⟩; obtain rfl := hw4.symm; clear hw4))
    have hX3 : Below W.heap.size W w3 := below_call' ((Below.refl _ _).drew.trans hb2) hb3
    have hB3 : Below w.heap.size w w3 := below_call' HBW2.out hX3
    have S3 := HS.out.below hB3
    have hall := HU.out.1 (by first | trivial | rfl)
    have hJ := joined_any S3 b (HJ0.out hall)
    unfold bval at hJ
    have LA3 := HLW2.out.below hX3
    have HALL : Hid (allB L b false) := hall
    have HB3 : Hid (Below w.heap.size w w3) := hB3
    have HLA3 : Hid (Laid w3 A 56 #[.int .i64 b.1, .int .i64 b.2]) := LA3
    clear hb2 hb3 hx2 hx3 hEB hUB' hE1 hX3 hB3 S3 hall LA3 HU hu
    go_wp2_with fail
    refine hJ.mono ?_
    rintro e w5 ⟨L2, b2, rfl, ⟨v2, S5, K5⟩, J5, N5⟩
    have hF := HS.out.lt
    have nA : ∀ c, nw F w3 w5 c → ¬ c = A := fun c hc e => by
      have h0 := HLA3.out.lt
      rcases hc with hc | hc
      · have := hF c hc; omega
      · omega
    have LA5 : Laid w5 A 56 #[.int .i64 b.1, .int .i64 b.2] := (K5.block A HLA3.out.lt fun e => by have := hF A e; omega).trans HLA3.out
    have l0 := LA5.cell 0
    have l1 := LA5.cell 1
    have lf := LA5.frozen
    have ll := LA5.lt
    simp at l0 l1
    have K6 : Keeps w5 ((w5.setCell ⟨A, 0, none⟩ (.int .i64 b2.1)).setCell ⟨A, 1, none⟩ (.int .i64 b2.2)) (fun b => b = A) := (Keeps.set _ _ _ _).trans (Keeps.set _ _ _ _) fun _ _ h => h
    have S6 := S5.keeps K6 nA
    have L6 : Laid ((w5.setCell ⟨A, 0, none⟩ (.int .i64 b2.1)).setCell ⟨A, 1, none⟩ (.int .i64 b2.2)) A 56 #[.int .i64 b2.1, .int .i64 b2.2] := heap_setCell_same _ _ 1 _ _ _ (heap_setCell_same w5 _ 0 _ _ _ LA5)
    have HK6 : Hid (Keeps w5 ((w5.setCell ⟨A, 0, none⟩ (.int .i64 b2.1)).setCell ⟨A, 1, none⟩ (.int .i64 b2.2)) (fun b => b = A)) := K6
    have HK5 : Hid (Keeps w3 w5 F) := K5
    have HS6 : Hid (Sto (nw F w3 w5) ((w5.setCell ⟨A, 0, none⟩ (.int .i64 b2.1)).setCell ⟨A, 1, none⟩ (.int .i64 b2.2)) p n v2 L2) := S6
    have HL6 : Hid (Laid ((w5.setCell ⟨A, 0, none⟩ (.int .i64 b2.1)).setCell ⟨A, 1, none⟩ (.int .i64 b2.2)) A 56 #[.int .i64 b2.1, .int .i64 b2.2]) := L6
    have HvA : Hid (v2.ownBlock ≠ some A) := fun e => nA A (S5.fv A e) rfl
    obtain ⟨o5, c5⟩ := J5.done N5
    have HD : Hid (Okl n (L2.take (behind L2 b2.1) ++ ([b2] ++ L2.drop (behind L2 b2.1))) ∧ ∀ x, cov (L2.take (behind L2 b2.1) ++ ([b2] ++ L2.drop (behind L2 b2.1))) x ↔ cov L x ∨ inB b x) := ⟨o5, c5⟩
    have HO2 : Hid (Okl n L2) := J5.ok
    clear K6 S6 L6 LA5 S5 K5 J5 N5 o5 c5 nA hJ HLA3 hF
    unfold bval
    go_wp2
    go_name_world W6 hW6
    have S6 : Sto (nw F w3 w5) W6 p n v2 L2 := by rw [← hW6]; exact HS6.out
    have L6 : Laid W6 A 56 #[.int .i64 b2.1, .int .i64 b2.2] := by rw [← hW6]; exact HL6.out
    have K6 : Keeps w5 W6 (fun b => b = A) := by rw [← hW6]; exact HK6.out
    have hE6 := fun w' (h : Below W6.heap.size W6 w') => endsBehind_any (S6.below h) HO2.out b2.1
    simp only [Int.toNat_natCast] at hE6
    have t0 := L6.cell 0
    have t1 := L6.cell 1
    have tz := L6.lt
    simp at t0 t1
    have hI6 := insP_any S6 t0 t1 HvA.out HO2.out.len (behind L2 b2.1) (behind_le _ _) b2
    obtain ⟨s0, s1, s2, s3⟩ := S6.p0
    have HK6' : Hid (Keeps w5 W6 (fun b => b = A)) := K6
    generalize behind L2 b2.1 = j at *
    generalize L2.take j ++ ([b2] ++ L2.drop j) = L3 at *
    have HE6 : Hid _ := hE6
    have HI6 : Hid _ := hI6
    clear hE6 hI6 S6 L6 K6 hW6 HK6 HS6 HL6 HvA l0 l1 lf ll
    have hx0 : ∀ w', Below W6.heap.size W6 w' → ∀ o, w'.cell? ⟨A, o, none⟩ = W6.cell? ⟨A, o, none⟩ := fun w' h o => (bcell h).1 A o tz
    have HX0 : Hid _ := hx0
    clear hx0
    have KEEP : Hid (∀ w', Below W6.heap.size W6 w' → w'.cell? ⟨p, 1, none⟩ = some v2 ∧ w'.cell? ⟨A, 0, none⟩ = some (.int .i64 b2.1) ∧ w'.cell? ⟨A, 1, none⟩ = some (.int .i64 b2.2)) := fun w' h => ⟨((bcell h).1 p 1 s3).trans s1, ((bcell h).1 A 0 tz).trans t0, ((bcell h).1 A 1 tz).trans t1⟩
    refine wp_region_X (fun w' => w'.cell? ⟨p, 1, none⟩ = some v2 ∧ w'.cell? ⟨A, 0, none⟩ = some (.int .i64 b2.1) ∧ w'.cell? ⟨A, 1, none⟩ = some (.int .i64 b2.2)) [14] (by kernel_rfl) ?_
    have hHeld := KEEP.out W6.drew (Below.refl _ _).drew
    refine wpAnyX_take (i := 0) (v := ?v0) rfl (by kernel_rfl) (by kernel_rfl) (by kernel_rfl) (by kernel_rfl) (by kernel_rfl) (fun _ _ _ h => h) (Or.inl ⟨by rfl, ?hy0⟩) hHeld ?rest0
    case hy0 => intro w hSw; (try dsimp only at hSw); go_simp; try with_reducible rfl
    case rest0 =>
    simp only [Act.put, List.setIfInBounds_toArray, List.set_cons_zero, List.set_cons_succ, List.getElem_toArray, List.getElem_cons_zero]
    refine wpAnyX_take (i := 1) (v := ?v1) rfl (by kernel_rfl) (by kernel_rfl) (by kernel_rfl) (by kernel_rfl) (by kernel_rfl) (fun _ _ _ h => h) (Or.inl ⟨by rfl, ?hy1⟩) hHeld ?rest1
    case hy1 => intro w hSw; (try dsimp only at hSw); go_simp; try with_reducible rfl
    case rest1 =>
    simp only [Act.put, List.setIfInBounds_toArray, List.set_cons_zero, List.set_cons_succ, List.getElem_toArray, List.getElem_cons_zero, List.getElem_cons_succ]
    refine wpAnyX_take (i := 2) (v := ?v2) rfl (by kernel_rfl) (by kernel_rfl) (by kernel_rfl) (by kernel_rfl) (by kernel_rfl) (fun _ _ _ h => h) (Or.inl ⟨by rfl, ?hy2⟩) hHeld ?rest2
    case hy2 => intro w hSw; (try dsimp only at hSw); go_simp; try with_reducible rfl
    case rest2 =>
    simp only [Act.put, List.setIfInBounds_toArray, List.set_cons_zero, List.set_cons_succ, List.getElem_toArray, List.getElem_cons_zero, List.getElem_cons_succ]
    refine wpAnyX_take (i := 3) (v := ?v3) rfl (by kernel_rfl) (by kernel_rfl) (by kernel_rfl) (by kernel_rfl) (by kernel_rfl) (fun _ _ _ h => h) (Or.inl ⟨by rfl, ?hy3⟩) hHeld ?rest3
    case hy3 => intro w hSw; (try dsimp only at hSw); go_simp; try with_reducible rfl
    case rest3 =>
    simp only [Act.put, List.setIfInBounds_toArray, List.set_cons_zero, List.set_cons_succ, List.getElem_toArray, List.getElem_cons_zero, List.getElem_cons_succ]
    refine wpAnyX_take (i := 4) (v := ?v4) rfl (by kernel_rfl) (by kernel_rfl) (by kernel_rfl) (by kernel_rfl) (by kernel_rfl) (fun _ _ _ h => h) (Or.inl ⟨by rfl, ?hy4⟩) hHeld ?rest4
    case hy4 => intro w hSw; (try dsimp only at hSw); go_simp; try with_reducible rfl
    case rest4 =>
    simp only [Act.put, List.setIfInBounds_toArray, List.set_cons_zero, List.set_cons_succ, List.getElem_toArray, List.getElem_cons_zero, List.getElem_cons_succ]
    refine wpAnyX_take (i := 5) (v := ?v5) rfl (by kernel_rfl) (by kernel_rfl) (by kernel_rfl) (by kernel_rfl) (by kernel_rfl) (fun _ _ _ h => h) (Or.inl ⟨by rfl, ?hy5⟩) hHeld ?rest5
    case hy5 => intro w hSw; (try dsimp only at hSw); go_simp; try with_reducible rfl
    case rest5 =>
    simp only [Act.put, List.setIfInBounds_toArray, List.set_cons_zero, List.set_cons_succ, List.getElem_toArray, List.getElem_cons_zero, List.getElem_cons_succ]
    refine wpAnyX_take (i := 6) (v := ?v6) rfl (by kernel_rfl) (by kernel_rfl) (by kernel_rfl) (by kernel_rfl) (by kernel_rfl) (fun _ _ _ h => h) (Or.inl ⟨by rfl, ?hy6⟩) hHeld ?rest6
    case hy6 => intro w hSw; (try dsimp only at hSw); go_simp; try with_reducible rfl
    case rest6 =>
    simp only [Act.put, List.setIfInBounds_toArray, List.set_cons_zero, List.set_cons_succ, List.getElem_toArray, List.getElem_cons_zero, List.getElem_cons_succ]
    refine wpAnyX_take (i := 7) (v := ?v7) rfl (by kernel_rfl) (by kernel_rfl) (by kernel_rfl) (by kernel_rfl) (by kernel_rfl) (fun _ _ _ h => h) (Or.inl ⟨by rfl, ?hy7⟩) hHeld ?rest7
    case hy7 => intro w hSw; (try dsimp only at hSw); go_simp; try with_reducible rfl
    case rest7 =>
    simp only [Act.put, List.setIfInBounds_toArray, List.set_cons_zero, List.set_cons_succ, List.getElem_toArray, List.getElem_cons_zero, List.getElem_cons_succ]
    refine wpAnyX_take (i := 9) (v := ?v9) rfl (by kernel_rfl) (by kernel_rfl) (by kernel_rfl) (by kernel_rfl) (by kernel_rfl) (fun _ _ _ h => h) (Or.inl ⟨by rfl, ?hy9⟩) hHeld ?rest9
    case hy9 => intro w hSw; (try dsimp only at hSw); go_simp; try with_reducible rfl
    case rest9 =>
    simp only [Act.put, List.setIfInBounds_toArray, List.set_cons_zero, List.set_cons_succ, List.getElem_toArray, List.getElem_cons_zero, List.getElem_cons_succ]
    refine wpAnyX_two (i := 8) (j := 10) (by kernel_rfl) rfl rfl (fun K hK => ?_) (fun K hK => ?_)
    · go_simp
      refine (HE6.out _ (Below.refl _ _).drew).mono ?_
      rintro e w7 ⟨rfl, hb7⟩
      have hq7 : Below W6.heap.size W6 w7 := (Below.refl _ _).drew.trans hb7
      refine hK.out _ _ (KEEP.out _ hq7) ?_
      clear hK K
      refine wpAnyX_one (i := 10) (by kernel_rfl) rfl (fun K hK => ?_)
      go_simp
      refine hK.out _ _ (KEEP.out _ (hq7.alloc hq7.size _)) ?_
      clear hK K
      refine wpAnyX_one (i := 11) (by kernel_rfl) rfl (fun K hK => ?_)
      go_simp
      refine (HI6.out _ _ (hq7.alloc hq7.size _) hq7.size (row_one_new _ _)).mono ?_
      rintro e w8 ⟨ao', n', c', rfl, y1, y2, y3, y4, y5⟩
      have HZ : Hid (∃ L', SP F w p n L' (w8.setCell ⟨p, 1, none⟩ (.slice ao' n' c')) ∧ Okl n L' ∧ ∀ x, cov L' x ↔ cov L x ∨ inB b x) := ⟨L3, SP.chain HB3.out HK5.out HK6'.out hwA HS.out.lt y5, HD.out⟩
      have hHeld := And.intro y1 (And.intro y3 y4)
      clear y5
      refine hK.out _ _ hHeld ?_
      clear hK K
      refine wpAnyX_take (i := 12) (v := ?v12) rfl (by kernel_rfl) (by kernel_rfl) (by kernel_rfl) (by kernel_rfl) (by kernel_rfl) (fun _ _ _ h => h) (Or.inl ⟨by rfl, ?hy12⟩) hHeld ?rest12
      case hy12 => intro w hSw; (try dsimp only at hSw); go_simp; try with_reducible rfl
      case rest12 =>
      simp only [Act.put, List.setIfInBounds_toArray, List.set_cons_zero, List.set_cons_succ, List.getElem_toArray, List.getElem_cons_zero, List.getElem_cons_succ]
      refine wpAnyX_take (i := 13) (v := ?v13) rfl (by kernel_rfl) (by kernel_rfl) (by kernel_rfl) (by kernel_rfl) (by kernel_rfl) (fun _ _ _ h => h) (Or.inl ⟨by rfl, ?hy13⟩) hHeld ?rest13
      case hy13 => intro w hSw; (try dsimp only at hSw); go_simp; try with_reducible rfl
      case rest13 =>
      simp only [Act.put, List.setIfInBounds_toArray, List.set_cons_zero, List.set_cons_succ, List.getElem_toArray, List.getElem_cons_zero, List.getElem_cons_succ]
      refine wpAnyX_last (i := 14) (by kernel_rfl) rfl (by kernel_rfl) (fun K hK => ?_)
      go_simp
      refine hK.out _ _ ?_
      clear hK K hHeld
      refine wpAnyX_done (by kernel_rfl) ?_ _
      go_wp2
      go_ret
      exact ⟨fun _ => ⟨rfl, HZ.out⟩, fun h => absurd HALL.out h⟩
    · go_simp
      refine hK.out _ _ (KEEP.out _ ((Below.refl _ _).drew.alloc (Nat.le_refl _) _)) ?_
      clear hK K
      refine wpAnyX_one (i := 8) (by kernel_rfl) rfl (fun K hK => ?_)
      go_simp
      refine (HE6.out _ ((Below.refl _ _).drew.alloc (Nat.le_refl _) _)).mono ?_
      rintro e w7 ⟨rfl, hb7⟩
      have hq7 : Below W6.heap.size W6 w7 := ((Below.refl _ _).drew.alloc (Nat.le_refl _) _).trans (hb7.mono (by simp))
      refine hK.out _ _ (KEEP.out _ hq7) ?_
      clear hK K
      refine wpAnyX_one (i := 11) (by kernel_rfl) rfl (fun K hK => ?_)
      go_simp
      refine (HI6.out _ _ hq7 (Nat.le_refl _) ((row_one_new W6.drew _).below hb7)).mono ?_
      rintro e w8 ⟨ao', n', c', rfl, y1, y2, y3, y4, y5⟩
      have HZ : Hid (∃ L', SP F w p n L' (w8.setCell ⟨p, 1, none⟩ (.slice ao' n' c')) ∧ Okl n L' ∧ ∀ x, cov L' x ↔ cov L x ∨ inB b x) := ⟨L3, SP.chain HB3.out HK5.out HK6'.out hwA HS.out.lt y5, HD.out⟩
      have hHeld := And.intro y1 (And.intro y3 y4)
      clear y5
      refine hK.out _ _ hHeld ?_
      clear hK K
      refine wpAnyX_take (i := 12) (v := ?v12) rfl (by kernel_rfl) (by kernel_rfl) (by kernel_rfl) (by kernel_rfl) (by kernel_rfl) (fun _ _ _ h => h) (Or.inl ⟨by rfl, ?hy12⟩) hHeld ?rest12
      case hy12 => intro w hSw; (try dsimp only at hSw); go_simp; try with_reducible rfl
      case rest12 =>
      simp only [Act.put, List.setIfInBounds_toArray, List.set_cons_zero, List.set_cons_succ, List.getElem_toArray, List.getElem_cons_zero, List.getElem_cons_succ]
      refine wpAnyX_take (i := 13) (v := ?v13) rfl (by kernel_rfl) (by kernel_rfl) (by kernel_rfl) (by kernel_rfl) (by kernel_rfl) (fun _ _ _ h => h) (Or.inl ⟨by rfl, ?hy13⟩) hHeld ?rest13
      case hy13 => intro w hSw; (try dsimp only at hSw); go_simp; try with_reducible rfl
      case rest13 =>
      simp only [Act.put, List.setIfInBounds_toArray, List.set_cons_zero, List.set_cons_succ, List.getElem_toArray, List.getElem_cons_zero, List.getElem_cons_succ]
      refine wpAnyX_last (i := 14) (by kernel_rfl) rfl (by kernel_rfl) (fun K hK => ?_)
      go_simp
      refine hK.out _ _ ?_
      clear hK K hHeld
      refine wpAnyX_done (by kernel_rfl) ?_ _
      go_wp2
      go_ret
      exact ⟨fun _ => ⟨rfl, HZ.out⟩, fun h => absurd HALL.out h⟩
end Go.Proofs.YtmmbfgkfidconaaDoor
/- What the statements' pick answers. -/
namespace Go.Proofs.YtmmbfgkfidconaaDoor
open Go.RowKit

def pickN (c : Int) (n : Nat) : Nat := ((if c < 0 then -(c + 1) else c) % n).toNat
theorem pickN_lt (c : Int) (n : Nat) (h : 0 < n) : pickN c n < n := by
  unfold pickN
  have h1 := Int.emod_nonneg (if c < 0 then -(c + 1) else c) (show (n : Int) ≠ 0 by omega)
  have h2 := Int.emod_lt_of_pos (if c < 0 then -(c + 1) else c) (show (0 : Int) < n by omega)
  omega
theorem pickN_eq (c : Int) (n : Nat) (h : 0 < n) : ((pickN c n : Nat) : Int) = (if c < 0 then -(c + 1) else c) % n := by
  unfold pickN
  have h1 := Int.emod_nonneg (if c < 0 then -(c + 1) else c) (show (n : Int) ≠ 0 by omega)
  omega
end Go.Proofs.YtmmbfgkfidconaaDoor
/- The document's examples: up returns true. Condition: the table of math/bits lies as its text lays it. -/
namespace Go.Proofs.YtmmbfgkfidconaaDoor
open Go.RowKit

theorem blk12 : blkL 0 12 = [(0, 3), (8, 2)] := by decide
theorem lst12 : lst 1 [(0, 3), (8, 2)] 2 = some 1 := by decide
theorem lst12' : lst 1 [(0, 3), (10, 1)] 2 = some 1 := by decide
theorem cov_two (a b : Bk) (x : Nat) : cov [a, b] x ↔ (a.1 ≤ x ∧ x < a.1 + 2 ^ a.2) ∨ (b.1 ≤ x ∧ x < b.1 + 2 ^ b.2) := by simp [cov, inB, bend]
theorem cov_one (a : Bk) (x : Nat) : cov [a] x ↔ (a.1 ≤ x ∧ x < a.1 + 2 ^ a.2) := by simp [cov, inB, bend]
theorem good_b : Good [(0, 3), (10, 1)] := by
  refine ⟨fun b hb => ?_, by decide, fun b hb h5 hd => ?_⟩
  · simp at hb
    rcases hb with rfl | rfl <;> exact ⟨by decide, by decide⟩
  · simp at hb
    rcases hb with rfl | rfl
    · exact ⟨9, by decide, by decide, by rw [cov_two]; decide⟩
    · exact absurd hd (by decide)
theorem good_c : Good [(0, 3)] := by
  refine ⟨fun b hb => ?_, by decide, fun b hb h5 hd => ?_⟩
  · simp at hb
    subst hb
    exact ⟨by decide, by decide⟩
  · simp at hb
    subst hb
    exact ⟨9, by decide, by decide, by rw [cov_one]; decide⟩

end Go.Proofs.YtmmbfgkfidconaaDoor
/- A store of one's own, beside other things that stay: what its calls tell. Condition: the table of math/bits lies as its text lays it. -/
namespace Go.Proofs.YtmmbfgkfidconaaDoor
open Go.RowKit

/-- A store whose blocks are new since W, beside the blocks of G. -/
def Ow (W w : World) (p n : Nat) (L : List Bk) (G : Nat → Prop) : Prop :=
  ∃ F v, (∀ c, F c → W.heap.size ≤ c) ∧ (∀ c, F c → ¬ G c) ∧ Sto F w p n v L ∧ Okl n L ∧ Below W.heap.size W w ∧ ∀ c, G c → c < w.heap.size
/-- The blocks of G stay. -/
abbrev Stay (G : Nat → Prop) (w w' : World) : Prop := Keeps w w' (fun b => ¬ G b)
/-- G, and what is new since w. -/
def plus (G : Nat → Prop) (w w' : World) (c : Nat) : Prop := G c ∨ w.heap.size ≤ c ∧ c < w'.heap.size
section
variable {W w w' : World} {p n : Nat} {L : List Bk} {G : Nat → Prop}
theorem Ow.frame (h : Ow W w p n L G) : Below W.heap.size W w := by
  obtain ⟨F, v, _, _, _, _, h, _⟩ := h
  exact h
theorem Ow.ok (h : Ow W w p n L G) : Okl n L := by
  obtain ⟨F, v, _, _, _, h, _, _⟩ := h
  exact h
theorem Ow.lt (h : Ow W w p n L G) : ∀ c, G c → c < w.heap.size := by
  obtain ⟨F, v, _, _, _, _, _, h⟩ := h
  exact h
theorem Ow.below (h : Ow W w p n L G) (hb : Below w.heap.size w w') : Ow W w' p n L G := by
  obtain ⟨F, v, h1, h2, h3, h4, h5, h6⟩ := h
  exact ⟨F, v, h1, h2, h3.below hb, h4, below_call' h5 hb, fun c hc => Nat.lt_of_lt_of_le (h6 c hc) hb.size⟩
/-- What is new joins G. -/
theorem Ow.more (h : Ow W w p n L G) (hb : Below w.heap.size w w') : Ow W w' p n L (plus G w w') := by
  obtain ⟨F, v, h1, h2, h3, h4, h5, h6⟩ := h
  refine ⟨F, v, h1, fun c hc e => ?_, h3.below hb, h4, below_call' h5 hb, fun c hc => ?_⟩
  · rcases e with e | e
    · exact h2 c hc e
    · have := h3.lt c hc; omega
  · rcases hc with hc | hc
    · exact Nat.lt_of_lt_of_le (h6 c hc) hb.size
    · exact hc.2
theorem Ow.less {G' : Nat → Prop} (h : Ow W w p n L G) (hg : ∀ c, G' c → G c) : Ow W w p n L G' := by
  obtain ⟨F, v, h1, h2, h3, h4, h5, h6⟩ := h
  exact ⟨F, v, h1, fun c hc e => h2 c hc (hg c e), h3, h4, h5, fun c hc => h6 c (hg c hc)⟩
/-- Something in G is turned. -/
theorem Ow.other {s : Nat → Prop} (h : Ow W w p n L G) (hk : Keeps w w' s) (hs : ∀ c, c < w.heap.size → s c → G c ∧ W.heap.size ≤ c) : Ow W w' p n L G := by
  obtain ⟨F, v, h1, h2, h3, h4, h5, h6⟩ := h
  exact ⟨F, v, h1, h2, h3.keeps hk fun c hc e => h2 c hc (hs c (h3.lt c hc) e).1, h4, h5.trans (hk.below h5.size fun c hc e => (hs c hc e).2), fun c hc => Nat.lt_of_lt_of_le (h6 c hc) hk.size⟩
theorem Ow.turn {F : Nat → Prop} {v : Value} {L' : List Bk} (h1 : ∀ c, F c → W.heap.size ≤ c) (h2 : ∀ c, F c → ¬ G c) (_h3 : Sto F w p n v L) (h5 : Below W.heap.size W w) (h6 : ∀ c, G c → c < w.heap.size) (hsp : SP F w p n L' w') (hok : Okl n L') : Ow W w' p n L' G ∧ Stay G w w' := by
  obtain ⟨v', s1, s2⟩ := hsp
  refine ⟨⟨_, v', fun c hc => ?_, fun c hc e => ?_, s1, hok, h5.trans (s2.below h5.size fun c _ e => h1 c e), fun c hc => Nat.lt_of_lt_of_le (h6 c hc) s2.size⟩, s2.mono fun c _ e => h2 c e⟩
  · rcases hc with hc | hc
    · exact h1 c hc
    · exact Nat.le_trans h5.size hc.1
  · rcases hc with hc | hc
    · exact h2 c hc e
    · have := h6 c e; omega
theorem Stay.of_below (hb : Below w.heap.size w w') (G : Nat → Prop) : Stay G w w' := Keeps.of_below hb _
theorem Stay.row {α : Type} {R : Rec α} {B : Nat} {v : Value} {l : List α} (h : Stay G w w') (hr : Row R B w v l) (hn : ∀ g, v.ownBlock = some g → G g) : Row R B w' v l := Keeps.row h hr fun g hg e => e (hn g hg)
theorem Stay.sto {F : Nat → Prop} {v : Value} (h : Stay G w w') (hs : Sto F w p n v L) (hn : ∀ c, F c → G c) : Sto F w' p n v L := hs.keeps h fun c hc e => e (hn c hc)
theorem Ow.tab (h : Ow W w p n L G) (hT : Tab W) : Tab w := hT.below h.frame (Nat.le_refl _)

theorem owNew (hT : Tab W) (hb : Below W.heap.size W w) (hG : ∀ c, G c → c < w.heap.size) (n : Nat) (h1 : 1 ≤ n) (h2 : n ≤ 512) :
    Calls Tryd.prog 29 #[.int .i64 n] w fun e w' => ∃ q, e = .returned (.tuple #[.pointer (some ⟨q, 0, none⟩), .nilIface]) ∧ Ow W w' q n (blkL 0 n) G ∧ Below w.heap.size w w' := by
  refine (new_yes n w (hT.below hb (Nat.le_refl _)) h1 h2).mono ?_
  rintro e w' ⟨q, rfl, ⟨v, hs⟩, hb'⟩
  exact ⟨q, rfl, ⟨_, v, fun c hc => Nat.le_trans hb.size hc.1, fun c hc e => by have := hG c e; omega, hs, new_okl h2, below_call' hb hb', fun c hc => Nat.lt_of_lt_of_le (hG c hc) hb'.size⟩, hb'⟩
/-- Take's answers. -/
def TakeO (W w : World) (p n : Nat) (L : List Bk) (G : Nat → Prop) (o : Nat) (e : Ending) (w' : World) : Prop :=
  match lst o L L.length with
  | none => e = .returned (.tuple #[.int .i64 0, .iface 28 (.int .i64 5)]) ∧ Ow W w' p n L G ∧ Stay G w w'
  | some m => e = .returned (.tuple #[.int .i64 (L.getD m (0, 0)).1, .nilIface]) ∧ ∃ L', Ow W w' p n L' G ∧ Stay G w w' ∧ ∀ x, cov L' x ↔ cov L x ∧ ¬ inB ((L.getD m (0, 0)).1, o) x
/-- TakeAt's, where there is a block. -/
def TakeAtO (W w : World) (p n : Nat) (L : List Bk) (G : Nat → Prop) (b : Bk) (e : Ending) (w' : World) : Prop :=
  (allB L b true → e = .returned .nilIface ∧ ∃ L', Ow W w' p n L' G ∧ Stay G w w' ∧ ∀ x, cov L' x ↔ cov L x ∧ ¬ inB b x) ∧ (¬ allB L b true → e = .returned (.iface 28 (.int .i64 7)) ∧ Ow W w' p n L G ∧ Stay G w w')
theorem Ow.takeAt (h : Ow W w p n L G) (hT : Tab W) (b : Bk) (hb : alB b) (hbn : bend b ≤ n) : Calls Tryd.prog 37 #[.pointer (some ⟨p, 0, none⟩), .int .i64 b.1, .int .i64 b.2] w (TakeAtO W w p n L G b) := by
  have hTw := h.tab hT
  have h' := h
  obtain ⟨F, v, h1, h2, h3, h4, hbe, h6⟩ := h
  refine (takeAt_any h3 h4 hTw b hb hbn).mono ?_
  rintro e w' ⟨t1, t2⟩
  refine ⟨fun ha => ?_, fun ha => ?_⟩
  · obtain ⟨e1, L', s1, s2, s3⟩ := t1 ha
    have := Ow.turn h1 h2 h3 hbe h6 s1 s2
    exact ⟨e1, L', this.1, this.2, s3⟩
  · have := t2 ha
    exact ⟨this.1, h'.below this.2, Stay.of_below this.2 G⟩
theorem Ow.takeAtNo (h : Ow W w p n L G) (z o : Int) (hz : -9223372036854775808 ≤ z ∧ z ≤ 9223372036854775807) (hh : hasB n z o = false) :
    Calls Tryd.prog 37 #[.pointer (some ⟨p, 0, none⟩), .int .i64 z, .int .i64 o] w fun e w' => e = .returned (.iface 28 (.int .i64 1)) ∧ Ow W w' p n L G ∧ Stay G w w' := by
  have h' := h
  obtain ⟨F, v, h1, h2, h3, h4, hbe, h6⟩ := h
  refine (takeAt_no h3 h4 z o hz hh).mono ?_
  rintro e w' ⟨e1, hb⟩
  exact ⟨e1, h'.below hb, Stay.of_below hb G⟩
/-- Give's, where there is a block. -/
def GiveO (W w : World) (p n : Nat) (L : List Bk) (G : Nat → Prop) (b : Bk) (e : Ending) (w' : World) : Prop :=
  (allB L b false → e = .returned .nilIface ∧ ∃ L', Ow W w' p n L' G ∧ Stay G w w' ∧ ∀ x, cov L' x ↔ cov L x ∨ inB b x) ∧ (¬ allB L b false → e = .returned (.iface 28 (.int .i64 7)) ∧ Ow W w' p n L G ∧ Stay G w w')
theorem Ow.give (h : Ow W w p n L G) (b : Bk) (hb : alB b) (hbn : bend b ≤ n) : Calls Tryd.prog 39 #[.pointer (some ⟨p, 0, none⟩), .int .i64 b.1, .int .i64 b.2] w (GiveO W w p n L G b) := by
  have h' := h
  obtain ⟨F, v, h1, h2, h3, h4, hbe, h6⟩ := h
  refine (give_any h3 h4 b hb hbn).mono ?_
  rintro e w' ⟨t1, t2⟩
  refine ⟨fun ha => ?_, fun ha => ?_⟩
  · obtain ⟨e1, L', s1, s2, s3⟩ := t1 ha
    have := Ow.turn h1 h2 h3 hbe h6 s1 s2
    exact ⟨e1, L', this.1, this.2, s3⟩
  · have := t2 ha
    exact ⟨this.1, h'.below this.2, Stay.of_below this.2 G⟩
theorem Ow.giveNo (h : Ow W w p n L G) (z o : Int) (hz : -9223372036854775808 ≤ z ∧ z ≤ 9223372036854775807) (hh : hasB n z o = false) :
    Calls Tryd.prog 39 #[.pointer (some ⟨p, 0, none⟩), .int .i64 z, .int .i64 o] w fun e w' => e = .returned (.iface 28 (.int .i64 1)) ∧ Ow W w' p n L G ∧ Stay G w w' := by
  have h' := h
  obtain ⟨F, v, h1, h2, h3, h4, hbe, h6⟩ := h
  refine (give_no h3 h4 z o hz hh).mono ?_
  rintro e w' ⟨e1, hb⟩
  exact ⟨e1, h'.below hb, Stay.of_below hb G⟩
theorem Ow.free (h : Ow W w p n L G) : Calls Tryd.prog 43 #[.pointer (some ⟨p, 0, none⟩)] w (ClonePrB w L) := by
  obtain ⟨F, v, h1, h2, h3, h4, hbe, h6⟩ := h
  exact free_any h3 h4
theorem Ow.isFree (h : Ow W w p n L G) (z : Int) : Calls Tryd.prog 42 #[.pointer (some ⟨p, 0, none⟩), .int .i64 z] w fun e w' => e = .returned (.bool (freeB L z)) ∧ Below w.heap.size w w' := by
  obtain ⟨F, v, h1, h2, h3, h4, hbe, h6⟩ := h
  exact isFree_any h3 h4 z
/-- A clone: another store, in what is new. -/
theorem Ow.clone (h : Ow W w p n L G) : Calls Tryd.prog 44 #[.pointer (some ⟨p, 0, none⟩)] w fun e w' => ∃ q, e = .returned (.pointer (some ⟨q, 0, none⟩)) ∧ NewS w n L q w' ∧ Below w.heap.size w w' := by
  obtain ⟨F, v, h1, h2, h3, h4, hbe, h6⟩ := h
  exact cloneS_any h3 h4
end
end Go.Proofs.YtmmbfgkfidconaaDoor
/- Take, walked. Condition: the table of math/bits lies as its text lays it. -/
namespace Go.Proofs.YtmmbfgkfidconaaDoor
open Go.RowKit

section
variable {F F' FZ : Nat → Prop} {w w' w3 w4 : World} {z p g c n : Nat} {v : Value} {L L' : List Bk} {gs : List Gp}
theorem ZB.wide (h : ZB F FZ w z p g c n v L gs) (hF : ∀ c, F c → F' c) (hl : ∀ c, F' c → c < w.heap.size) : ZB F' FZ w z p g c n v L gs :=
  ⟨h.sto, h.ok, h.laid, h.row, h.len, h.pos, fun c hc => hF c (h.sub c hc), hF z h.fz, hF g h.fg, h.nz, h.ng, hl⟩
/-- The store is turned behind calls that only make memory; then a group's cell is stored. -/
theorem ZB.then_set (h : ZB F FZ w z p g c n v L gs) (hb : Below w.heap.size w w3) (hs : SP FZ w3 p n L' w4) (ho : Okl n L') {i : Nat} (hi : i < gs.length) (o : Nat) (u : Value) (x : Gp) (h2 : o < 2) (hx : rG.cells x = (rG.cells (gs.getD i (0, false))).set o u) :
    w4.cell? ⟨z, 2, none⟩ = some (.slice (some ⟨g, 0, none⟩) gs.length c) ∧ w4.cell? ⟨g, i * 2, none⟩ = some (.int .i64 (gs.getD i (0, false)).1) ∧ w4.cell? ⟨g, i * 2 + 1, none⟩ = some (.bool (gs.getD i (0, false)).2) ∧ (∀ j, w4.frozen? ⟨g, j, none⟩ = false) ∧ g < w4.heap.size ∧ ZP F w z n L' (gs.set i x) (w4.setCell ⟨g, i * 2 + o, none⟩ u) := by
  have hs' := SP.after (fun c hc => h.lt c (h.sub c hc)) hb hs
  obtain ⟨v', h', k⟩ := h.sp hs' ho
  obtain ⟨g0, g1, gf⟩ := h'.grp hi
  have hg := h'.lt g h'.fg
  refine ⟨h'.cells.2.2, g0, g1, gf, hg, ⟨_, p, g, c, v', (h'.setg i o u x hi h2 hx).wide (fun c hc => hc.elim Or.inl fun e => Or.inr ⟨e.1, by simpa using e.2⟩) fun c hc => ?_⟩, ?_⟩
  · rcases hc with hc | hc
    · have := h.lt c hc
      have := k.size
      simp
      omega
    · exact hc.2
  · have k1 : Keeps w w4 F := k.mono fun b _ e => h.sub b e
    exact k1.trans ((Keeps.set w4 g _ u).mono fun b _ e => by rw [e]; exact h.fg) fun _ _ e => e
end

/-- Take's answers. -/
def TakeZ (F : Nat → Prop) (w : World) (z n : Nat) (L : List Bk) (gs : List Gp) (s : Int) (o : Nat) (res : Option Bk) (e : Ending) (w' : World) : Prop :=
  match res with
  | none => e = .returned (.tuple #[.int .i64 0, .iface 28 (.int .i64 5)]) ∧ ZP F w z n L gs w'
  | some r => e = .returned (.tuple #[.int .i64 r.1, .nilIface]) ∧ ∃ L', ZP F w z n L' (gs.set (r.1 / 8) (s, false)) w' ∧ ∀ x, cov L' x ↔ cov L x ∧ ¬ inB (r.1, o) x
theorem Zp.block {n : Nat} {gs : List Gp} {L : List Bk} (ho : Okl n L) {s : Int} {o : Nat} {r : Bk} (h : Zp gs L s o (some r)) : alB (r.1, o) ∧ bend (r.1, o) ≤ n ∧ allB L (r.1, o) true ∧ r.1 / 8 < gs.length ∧ (gs.getD (r.1 / 8) (0, false)).2 = false := by
  have hc := h.cn
  obtain ⟨h1, h2, h3, h4⟩ := hc.1.facts ho
  have hor := hc.2.1
  have hp := Nat.pow_le_pow_right (show 0 < 2 by decide) hor
  have e1 : bend (r.1, o) = r.1 + 2 ^ o := rfl
  have e2 : bend r = r.1 + 2 ^ r.2 := rfl
  obtain ⟨x, hx, hx2, _⟩ := hc.2.2
  have hl := (List.getElem?_eq_some_iff.1 hx).1
  refine ⟨⟨by show o ≤ 5; omega, Nat.dvd_trans (Nat.pow_dvd_pow 2 hor) h2⟩, by omega, fun y hy => (covB_iff _ _).2 (h4 y ⟨hy.1, ?_⟩), hl, ?_⟩
  · have := hy.2
    omega
  · rw [List.getD_eq_getElem?_getD, hx]
    exact hx2
/-- Take, behind the search. -/
def TakeTail (F : Nat → Prop) (w : World) (z n : Nat) (L : List Bk) (gs : List Gp) (s : Int) (o : Nat) (r : Bk) (g c : Nat) (e : Ending) (w4 : World) : Prop :=
  e = .returned .nilIface ∧ w4.cell? ⟨z, 2, none⟩ = some (.slice (some ⟨g, 0, none⟩) gs.length c) ∧ (∃ u, w4.cell? ⟨g, r.1 / 8 * 2, none⟩ = some u) ∧ (∀ j, w4.frozen? ⟨g, j, none⟩ = false) ∧ g < w4.heap.size ∧ ∃ L', ZP F w z n L' (gs.set (r.1 / 8) (s, false)) (w4.setCell ⟨g, r.1 / 8 * 2, none⟩ (.int .i64 s)) ∧ ∀ x, cov L' x ↔ cov L x ∧ ¬ inB (r.1, o) x
theorem take_tail {F FZ : Nat → Prop} {w w3 : World} {z p g c n : Nat} {v : Value} {L : List Bk} {gs : List Gp} (h : ZB F FZ w z p g c n v L gs) (hT : Tab w) (hb : Below w.heap.size w w3) (s : Int) (o : Nat) {r : Bk} (hz : Zp gs L s o (some r)) :
    Calls Tryd.prog 37 #[.pointer (some ⟨p, 0, none⟩), .int .i64 r.1, .int .i64 o] w3 (TakeTail F w z n L gs s o r g c) := by
  obtain ⟨b1, b2, b3, b4, b5⟩ := hz.block h.ok
  refine (takeAt_any (h.sto.below hb) h.ok (hT.below hb (Nat.le_refl _)) (r.1, o) b1 b2).mono ?_
  rintro e w4 ⟨h4, -⟩
  obtain ⟨rfl, L', s1, s2, s3⟩ := h4 b3
  have := h.then_set hb s1 s2 b4 0 (.int .i64 s) (s, false) (by decide) (by
    show [Value.int .i64 s, .bool false] = [.int .i64 s, .bool _]
    rw [b5])
  obtain ⟨k1, k2, k3, k4, k5, k6⟩ := this
  exact ⟨rfl, k1, ⟨_, k2⟩, k4, k5, L', k6, s3⟩

set_option maxRecDepth 100000 in
set_option maxHeartbeats 4000000 in
theorem ztake_any {F FZ : Nat → Prop} {w : World} {z p g c n : Nat} {v : Value} {L : List Bk} {gs : List Gp} (h : ZB F FZ w z p g c n v L gs) (hT : Tab w) (s : Int) (hs : 0 ≤ s ∧ s ≤ 1) (o : Nat) (ho : o ≤ 3) {res : Option Bk} (hz : Zp gs L s o res) :
    Calls Tryd.prog 14 #[.pointer (some ⟨z, 0, none⟩), .int .i64 s, .int .i64 o] w (TakeZ F w z n L gs s o res) := by
  have hM := fun w => zmay_any s w
  rw [decide_eq_true hs] at hM
  have hR := rooms_any h
  have hoz : ¬ (3 : Int) < (o : Int) := by omega
  have HZ : Hid (ZB F FZ w z p g c n v L gs) := h
  have hmx := h.ok.max
  have hln := h.len
  have HT : Hid (Tab w) := hT
  have HP : Hid (Zp gs L s o res) := hz
  obtain ⟨m1, hm1, hcase⟩ : ∃ m1, Bst true (Cn gs L (some s) o) m1 ∧ ((∃ r, m1 = some r ∧ res = some r) ∨ (m1 = none ∧ Bst false (Cn gs L none o) res)) := by
    rcases hz with ⟨r, e, hb⟩ | ⟨hb, hb'⟩
    · exact ⟨_, hb, Or.inl ⟨r, rfl, e⟩⟩
    · exact ⟨_, hb, Or.inr ⟨rfl, hb'⟩⟩
  have HM1 : Hid (Bst true (Cn gs L (some s) o) m1) := hm1
  clear h hT hz hm1 hs
  go_enter Tryd.func14, Tryd.ntmps14
  go_wp2_with (go_at_call 33; refine (hM _).mono ?_; rintro e w5 ⟨rfl, hw⟩; obtain rfl := hw.symm; clear hw)
  refine hR.mono ?_
  rintro e w1 ⟨vr, rfl, R1, hb1⟩
  clear hR hM
  rcases R1.cases with ⟨_, e0⟩ | ⟨q, cq, cur, rfl, _⟩
  · exfalso
    have := congrArg List.length e0
    rw [ofF_len] at this
    have h0 := HZ.out.pos
    rw [List.length_nil] at this
    omega
  rw [ofF_len] at R1 ⊢
  have hL := leastOf_any (HZ.out.below hb1) R1 s o HM1.out
  have HR1 : Hid (Row rI w.heap.size w1 (.slice (some ⟨q, 0, none⟩) n cq) (ofF n (rmS L))) := R1
  have HB1 : Hid (Below w.heap.size w w1) := hb1
  clear R1 hb1
  rcases hcase with ⟨r, rfl, rfl⟩ | ⟨rfl, hg⟩
  · simp only [fsA, Option.isSome_some] at hL
    have hblk := HP.out.block HZ.out.ok
    have hr8 := hblk.2.2.2.1
    have hr5 : r.1 ≤ 512 := by have := hblk.2.1; have : bend (r.1, o) = r.1 + 2 ^ o := rfl; omega
    go_wp2_with fail
    refine hL.mono ?_
    rintro e w2 ⟨rfl, hb2⟩
    have HB2 : Hid (Below w.heap.size w w2) := below_call' HB1.out hb2
    have hTA := take_tail HZ.out HT.out HB2.out s o HP.out
    obtain ⟨c0, -, -⟩ := (HZ.out.below HB2.out).cells
    clear hL hb2 HB1 HR1 hblk HM1
    go_wp2_with fail
    refine hTA.mono ?_
    rintro e w4 ⟨rfl, k1, ⟨u, k2⟩, k3, k4, L', k5, k6⟩
    have HX : Hid (ZP F w z n L' (gs.set (r.1 / 8) (s, false)) (w4.setCell ⟨g, r.1 / 8 * 2, none⟩ (.int .i64 s)) ∧ ∀ x, cov L' x ↔ cov L x ∧ ¬ inB (r.1, o) x) := ⟨k5, k6⟩
    have kf := k3 (r.1 / 8 * 2)
    clear hTA k5 k6 c0 k3
    go_wp2
    go_ret2
    exact ⟨rfl, L', HX.out.1, HX.out.2⟩
  · simp only [fsA, Option.isSome_none] at hL
    go_wp2_with fail
    refine hL.mono ?_
    rintro e w2 ⟨rfl, hb2⟩
    have HB2 : Hid (Below w.heap.size w w2) := below_call' HB1.out hb2
    have hG := greatest_any (HZ.out.below HB2.out) (HR1.out.below hb2) o hg
    clear hL hb2 HB1 HR1 HM1
    go_wp2_with fail
    refine hG.mono ?_
    intro e w3 he
    cases res with
    | none =>
      obtain ⟨⟨x, rfl⟩, hb3⟩ := he
      have HX : Hid (ZP F w z n L gs w3) := ZP.of_below ⟨_, _, _, _, _, HZ.out⟩ (below_call' HB2.out hb3)
      clear hG hb3
      go_wp2
      go_ret2
      exact ⟨rfl, HX.out⟩
    | some r =>
      obtain ⟨rfl, hb3⟩ := he
      have HB3 := below_call' HB2.out hb3
      have hTA := take_tail HZ.out HT.out HB3 s o HP.out
      obtain ⟨c0, -, -⟩ := (HZ.out.below HB3).cells
      have hblk := HP.out.block HZ.out.ok
      have hr8 := hblk.2.2.2.1
      have hr5 : r.1 ≤ 512 := by have := hblk.2.1; have : bend (r.1, o) = r.1 + 2 ^ o := rfl; omega
      clear hG hb3 hblk HB3
      go_wp2_with fail
      refine hTA.mono ?_
      rintro e w4 ⟨rfl, k1, ⟨u, k2⟩, k3, k4, L', k5, k6⟩
      have HX : Hid (ZP F w z n L' (gs.set (r.1 / 8) (s, false)) (w4.setCell ⟨g, r.1 / 8 * 2, none⟩ (.int .i64 s)) ∧ ∀ x, cov L' x ↔ cov L x ∧ ¬ inB (r.1, o) x) := ⟨k5, k6⟩
      have kf := k3 (r.1 / 8 * 2)
      clear hTA k5 k6 c0 k3
      go_wp2
      go_ret2
      exact ⟨rfl, L', HX.out.1, HX.out.2⟩
end Go.Proofs.YtmmbfgkfidconaaDoor
/- slices.Clone over a row of groups. -/
namespace Go.Proofs.YtmmbfgkfidconaaDoor
open Go.RowKit

/-- What Clone tells: a row of its own. -/
def ClonePrG (w : World) (l : List Gp) (e : Ending) (w' : World) : Prop := ∃ v', e = .returned v' ∧ Row rG w.heap.size w' v' l ∧ Below w.heap.size w w'
set_option maxRecDepth 100000 in
set_option maxHeartbeats 2000000 in
theorem clone_rG {B : Nat} {w : World} {v : Value} {l : List Gp} (hown : Row rG B w v l) (hm : l.length ≤ 4096) :
    Calls Tryd.prog 45 #[v] w (ClonePrG w l) := by
  have q22 : ∀ (w : World) (a : Option Addr) (n c n' c' : Nat), (binOp .eql 62 (.slice a n c) (.slice none n' c')).run Tryd.prog w = .ok (.bool a.isNone) w := fun w a n c n' c' => Lib.run_eql_slice_nil w _ _ a n c n' c' Tryd.underlying62
  rcases hown.cases with ⟨rfl, rfl⟩ | ⟨g, c, cur, rfl, hB, hg0, hg, hlc, hcm, hs, hh⟩
  · go_enter Tryd.func45, Tryd.ntmps45
    go_wp2
    go_ret
    exact ⟨_, rfl, Row.nil _ _ _, Below.refl _ _⟩
  · have hcm' : c ≤ 9223372036854775807 := by unfold maxLen at hcm; omega
    have HS : Hid (Seen rG (w.alloc (.cells #[] 64)) (some ⟨g, 0, none⟩) c l) := hown.seen.2.below ((Below.refl _ _).alloc (Nat.le_refl _) _)
    have HR0 : Hid (Row rG w.heap.size (w.alloc (.cells #[] 64)) (.slice (some ⟨w.heap.size, 0, none⟩) 0 0) []) := World.ownsRow_made w #[] 0 (Nat.le_refl _) (Nat.zero_le _) (by simp)
    clear hown hh hs hcm hB
    go_enter Tryd.func45, Tryd.ntmps45
    go_wp2_with (at_builtin; refine list_app rG.kin rfl _ _ rfl w.heap.size _ [] l rfl HR0.out (some ⟨g, 0, none⟩) l.length c rfl rfl HS.out ?c3 ?c4 ?c5 ?_)
    case c3 => simp [maxLen]; omega
    case c4 => simp [rG]; omega
    case c5 => simp
    intro v' w1 ho hgrow
    have HO : Hid (Row rG w.heap.size w1 v' l) := ho
    clear ho
    go_wp2
    go_ret
    exact ⟨v', rfl, HO.out, ((Below.refl _ w).alloc (Nat.le_refl _) _).grown hgrow (by simp) (by intro k hk; simp [Value.ownBlock] at hk; omega)⟩

end Go.Proofs.YtmmbfgkfidconaaDoor
/- New, TakeAt, Give, Close, Open, Clone. Condition: the table of math/bits lies as its text lays it. -/
namespace Go.Proofs.YtmmbfgkfidconaaDoor
open Go.RowKit

theorem rG.zone : ∀ i z, Tryd.prog.info? rG.t = some i → i.zero = some z → z.cells = (rG.cells rG.zero).toArray := by
  intro i z hi hz
  have h : (Tryd.prog.info? 64).map (fun i => i.zero) = some (some (.agg #[.int .i64 0, .bool false])) := by kernel_rfl
  rw [show Tryd.prog.info? 64 = some i from hi, Option.map_some, hz] at h
  simp at h
  subst h
  rfl
/-- A zone of its own, in what is new. -/
def NewZ (w : World) (n : Nat) (L : List Bk) (gs : List Gp) (z : Nat) (w' : World) : Prop := Zo (fun c => w.heap.size ≤ c ∧ c < w'.heap.size) w' z n L gs
theorem ofF_const {α : Type} (n : Nat) (a : α) : ofF n (fun _ => a) = List.replicate n a := by
  apply List.ext_getElem?
  intro x
  unfold ofF
  by_cases hx : x < n
  · rw [List.getElem?_map, List.getElem?_range hx, List.getElem?_replicate, if_pos hx]
    rfl
  · rw [List.getElem?_eq_none (by simp; omega), List.getElem?_eq_none (by simp; omega)]

set_option maxRecDepth 100000 in
set_option maxHeartbeats 4000000 in
theorem znew_yes (n : Nat) (w : World) (hT : Tab w) (h1 : 1 ≤ n) (h2 : n ≤ 512) :
    Calls Tryd.prog 9 #[.int .i64 n] w fun e w' => ∃ z, e = .returned (.tuple #[.pointer (some ⟨z, 0, none⟩), .nilIface]) ∧ NewZ w n (blkL 0 n) (List.replicate ((n + 7) / 8) (1, false)) z w' ∧ Below w.heap.size w w' := by
  have hN := new_yes n w hT h1 h2
  have HK : Hid (Okl n (blkL 0 n)) := new_okl h2
  generalize blkL 0 n = L at *
  obtain ⟨G, hG⟩ : ∃ G, G = (n + 7) / 8 := ⟨_, rfl⟩
  have HG : Hid (G = (n + 7) / 8) := hG
  have hGz : ((n : Int) + 8 - 1) / 8 = (G : Int) := by omega
  have hg64 : G ≤ 64 := by omega
  have hg1 : 1 ≤ G := by omega
  rw [← hG]
  have hmk := fun w => run_makeR rG.kin rG.zone w G (by unfold maxLen; omega) (by show 16 * G ≤ _; omega)
  clear hT hG
  go_enter Tryd.func9, Tryd.ntmps9
  go_wp2_with fail
  refine hN.mono ?_
  rintro e w1 ⟨p, rfl, ⟨v, S1⟩, hb1⟩
  obtain ⟨cs, hm, hrow⟩ := hmk w1
  have HS : Hid (Sto (fun c => w.heap.size ≤ c ∧ c < w1.heap.size) w1 p n v L ∧ Below w.heap.size w w1) := ⟨S1, hb1⟩
  obtain ⟨q, hq⟩ : ∃ q, w1.heap.size = q := ⟨_, rfl⟩
  have HQ : Hid (w1.heap.size = q) := hq
  have HB0 : Hid (Below w1.heap.size w1 (w1.alloc (.cells cs 64))) := (Below.refl _ _).alloc (Nat.le_refl _) _
  have HR : Hid (Row rG q (w1.alloc (.cells cs 64)) (.slice (some ⟨q, 0, none⟩) G G) (ofF G (fun x => if x < 0 then ((1 : Int), false) else (0, false)))) := by
    have e : ofF G (fun x => if x < 0 then ((1 : Int), false) else (0, false)) = List.replicate G rG.zero := by
      rw [← ofF_const]
      exact ofF_congr fun x _ => rfl
    rw [e, ← hq]
    exact hrow
  rw [hq] at hm
  clear hN hmk hrow S1 hb1 hq
  go_wp2_with fail
  clear hm hGz
  go_loopw [7] (fun iv W => ∃ k : Nat, k ≤ G ∧ iv = .int .i64 k ∧ Hid (Row rG q W (.slice (some ⟨q, 0, none⟩) G G) (ofF G (fun x => if x < k then ((1 : Int), false) else (0, false)))) ∧ Hid (Below w1.heap.size w1 W)) (fun iv _ => G - (intOf iv).toNat)
  case atStart => exact ⟨0, Nat.zero_le _, rfl, HR, HB0⟩
  case round =>
    obtain ⟨k, hk, rfl, HI, HB⟩ := hrel
    clear HB0 HR
    by_cases hkn : k < G
    · have hkz : (k : Int) < (G : Int) := by omega
      have hl := ofF_len G (fun x => if x < k then ((1 : Int), false) else (0, false))
      obtain ⟨g', e', -, -, hg', -, -, hat⟩ := HI.out.at (show k < _ by rw [hl]; exact hkn)
      cases e'
      obtain ⟨d0, -⟩ := rG.at hat
      simp only [show rG.n = 2 from rfl] at d0
      have hfz := HI.out.frozen (k * 2)
      have HN : Hid (Row rG q (wr.setCell ⟨q, k * 2, none⟩ (.int .i64 1)) (.slice (some ⟨q, 0, none⟩) G G) (ofF G (fun x => if x < k + 1 then ((1 : Int), false) else (0, false)))) := by
        have e : ofF G (fun x => if x < k + 1 then ((1 : Int), false) else (0, false)) = (ofF G (fun x => if x < k then ((1 : Int), false) else (0, false))).set k (1, false) := by
          rw [ofF_set]
          apply ofF_congr
          intro x _
          by_cases h1 : x = k
          · rw [if_pos h1, if_pos (by omega)]
          · rw [if_neg h1]
            by_cases h2 : x < k
            · rw [if_pos h2, if_pos (by omega)]
            · rw [if_neg h2, if_neg (by omega)]
        rw [e]
        have := HI.out.put1 k 0 (.int .i64 1) (1, false) (by rw [hl]; exact hkn) (by decide) (by
          rw [ofF_get G _ _ hkn, if_neg (Nat.lt_irrefl _)]
          rfl)
        simp only [show rG.n = 2 from rfl, Nat.add_zero] at this
        exact this
      have HB2 : Hid (Below w1.heap.size w1 (wr.setCell ⟨q, k * 2, none⟩ (.int .i64 1))) := HB.out.trans ((Keeps.set wr q _ _).below HB.out.size fun c _ e => by rw [e, ← HQ.out]; exact Nat.le_refl _)
      clear hat hl HI HB
      go_wp2
      go_roundw
      case rel => exact ⟨k + 1, by omega, by go_num, HN, HB2⟩
      case measure => simp only [intOf]; omega
    · obtain rfl : k = G := by omega
      have HI2 : Hid (Row rG q wr (.slice (some ⟨q, 0, none⟩) k k) (List.replicate k (1, false))) := by
        have e : ofF k (fun x => if x < k then ((1 : Int), false) else (0, false)) = List.replicate k ((1 : Int), false) := by
          rw [← ofF_const]
          exact ofF_congr fun x hx => if_pos hx
        rw [← e]
        exact HI.out
      have HZ : Hid (∀ W, W = wr.alloc (.cells #[.pointer (some ⟨p, 0, none⟩), .int .i64 n, .slice (some ⟨q, 0, none⟩) k k] 66) → NewZ w n L (List.replicate k (1, false)) wr.heap.size W ∧ Below w.heap.size w W) := by
        rintro W rfl
        have hb : Below wr.heap.size wr (wr.alloc (.cells #[.pointer (some ⟨p, 0, none⟩), .int .i64 n, .slice (some ⟨q, 0, none⟩) k k] 66)) := (Below.refl _ _).alloc (Nat.le_refl _) _
        have hb2 := below_call' HB.out hb
        have s1 := HS.out.2.size
        have s2 := HB.out.size
        have hq := HQ.out
        have hqw := (HI2.out.lt q rfl).2
        have hl : (List.replicate k ((1 : Int), false)).length = k := by simp
        refine ⟨⟨_, p, q, k, v, HS.out.1.below hb2, HK.out, ?_, ?_, ?_, h1, fun c hc => ⟨hc.1, ?_⟩, ⟨by omega, by simp⟩, ⟨by omega, by simp; omega⟩, fun e => ?_, fun e => ?_, fun c hc => hc.2⟩, below_call' HS.out.2 hb2⟩
        · rw [hl]; exact Laid.new _ _ _
        · rw [hl]; exact (HI2.out.below hb).lower (Nat.zero_le _)
        · rw [hl]; exact HG.out
        · have := hc.2
          simp
          omega
        · have := e.2; omega
        · have := e.2; omega
      clear HI HI2 HB
      go_wp2
      go_ret2
      exact ⟨_, rfl, (HZ.out _ rfl).1, (HZ.out _ rfl).2⟩
theorem znew_no (k : Int) (w : World) (h : ¬ (1 ≤ k ∧ k ≤ 512)) :
    Calls Tryd.prog 9 #[.int .i64 k] w fun e w' => e = .returned (.tuple #[.pointer none, .iface 28 (.int .i64 1)]) ∧ w' = w := by
  have hN := new_no k w h
  clear h
  go_enter Tryd.func9, Tryd.ntmps9
  go_wp2_with (go_at_call 29; refine hN.mono ?_; rintro e w5 ⟨rfl, hw⟩; obtain rfl := hw.symm; clear hw)
  go_ret2
  exact ⟨rfl, rfl⟩
end Go.Proofs.YtmmbfgkfidconaaDoor
/- TakeAt, Give, Close, Open, Clone. Condition: the table of math/bits lies as its text lays it. -/
namespace Go.Proofs.YtmmbfgkfidconaaDoor
open Go.RowKit

section
variable {F FZ : Nat → Prop} {w : World} {z p g c n : Nat} {v : Value} {L : List Bk} {gs : List Gp}

/-- TakeAt's, Give's answers, where there is a block. -/
def TakeAtZ (F : Nat → Prop) (w : World) (z n : Nat) (L : List Bk) (gs : List Gp) (b : Bk) (e : Ending) (w' : World) : Prop :=
  (allB L b true → e = .returned .nilIface ∧ ∃ L', ZP F w z n L' gs w' ∧ ∀ x, cov L' x ↔ cov L x ∧ ¬ inB b x) ∧ (¬ allB L b true → e = .returned (.iface 28 (.int .i64 7)) ∧ ZP F w z n L gs w')
def GiveZ (F : Nat → Prop) (w : World) (z n : Nat) (L : List Bk) (gs : List Gp) (b : Bk) (e : Ending) (w' : World) : Prop :=
  (allB L b false → e = .returned .nilIface ∧ ∃ L', ZP F w z n L' gs w' ∧ ∀ x, cov L' x ↔ cov L x ∨ inB b x) ∧ (¬ allB L b false → e = .returned (.iface 28 (.int .i64 7)) ∧ ZP F w z n L gs w')
theorem ztakeAt_yes (h : ZB F FZ w z p g c n v L gs) (hT : Tab w) (b : Bk) (hb : alB b) (h3 : b.2 ≤ 3) (hbn : bend b ≤ n) :
    Calls Tryd.prog 16 #[.pointer (some ⟨z, 0, none⟩), .int .i64 b.1, .int .i64 b.2] w (TakeAtZ F w z n L gs b) := by
  have hA := (takeAt_any h.sto h.ok hT b hb hbn).mono (R' := fun e w' => ∃ a, e = .returned a ∧ TakeAtZ F w z n L gs b (.returned a) w') (by
    rintro e w' ⟨t1, t2⟩
    by_cases ha : allB L b true
    · obtain ⟨rfl, L', s1, s2, s3⟩ := t1 ha
      exact ⟨_, rfl, fun _ => ⟨rfl, L', h.zp s1 s2, s3⟩, fun hn => absurd ha hn⟩
    · obtain ⟨rfl, s1⟩ := t2 ha
      exact ⟨_, rfl, fun hn => absurd hn ha, fun _ => ⟨rfl, ZP.of_below ⟨_, _, _, _, _, h⟩ s1⟩⟩)
  obtain ⟨c0, -, -⟩ := h.cells
  have hz3 : ¬ (3 : Int) < (b.2 : Int) := by omega
  clear h hb hbn
  go_enter Tryd.func16, Tryd.ntmps16
  go_wp2_with fail
  refine hA.mono ?_
  rintro e w1 ⟨a, rfl, ha⟩
  have HA : Hid (TakeAtZ F w z n L gs b (.returned a) w1) := ha
  clear hA ha
  go_wp2
  go_ret
  exact HA.out
theorem zgive_yes (h : ZB F FZ w z p g c n v L gs) (b : Bk) (hb : alB b) (h3 : b.2 ≤ 3) (hbn : bend b ≤ n) :
    Calls Tryd.prog 19 #[.pointer (some ⟨z, 0, none⟩), .int .i64 b.1, .int .i64 b.2] w (GiveZ F w z n L gs b) := by
  have hA := (give_any h.sto h.ok b hb hbn).mono (R' := fun e w' => ∃ a, e = .returned a ∧ GiveZ F w z n L gs b (.returned a) w') (by
    rintro e w' ⟨t1, t2⟩
    by_cases ha : allB L b false
    · obtain ⟨rfl, L', s1, s2, s3⟩ := t1 ha
      exact ⟨_, rfl, fun _ => ⟨rfl, L', h.zp s1 s2, s3⟩, fun hn => absurd ha hn⟩
    · obtain ⟨rfl, s1⟩ := t2 ha
      exact ⟨_, rfl, fun hn => absurd hn ha, fun _ => ⟨rfl, ZP.of_below ⟨_, _, _, _, _, h⟩ s1⟩⟩)
  obtain ⟨c0, -, -⟩ := h.cells
  have hz3 : ¬ (3 : Int) < (b.2 : Int) := by omega
  clear h hb hbn
  go_enter Tryd.func19, Tryd.ntmps19
  go_wp2_with fail
  refine hA.mono ?_
  rintro e w1 ⟨a, rfl, ha⟩
  have HA : Hid (GiveZ F w z n L gs b (.returned a) w1) := ha
  clear hA ha
  go_wp2
  go_ret
  exact HA.out
/-- What tells an error, and leaves all as it was. -/
def NoZ (F : Nat → Prop) (w : World) (z n : Nat) (L : List Bk) (gs : List Gp) (k : Int) (e : Ending) (w' : World) : Prop := e = .returned (.iface 28 (.int .i64 k)) ∧ ZP F w z n L gs w'
theorem ztakeAt_no (h : ZB F FZ w z p g c n v L gs) (a o : Int) (ha : -9223372036854775808 ≤ a ∧ a ≤ 9223372036854775807) (hh : 3 < o ∨ hasB n a o = false) :
    Calls Tryd.prog 16 #[.pointer (some ⟨z, 0, none⟩), .int .i64 a, .int .i64 o] w (NoZ F w z n L gs 1) := by
  have HZ : Hid (Zo F w z n L gs) := ⟨_, _, _, _, _, h⟩
  by_cases h3 : 3 < o
  · clear h hh
    go_enter Tryd.func16, Tryd.ntmps16
    go_wp2
    go_ret
    exact ⟨rfl, ZP.of_below HZ.out (Below.refl _ _)⟩
  · have hA := takeAt_no h.sto h.ok a o ha (by rcases hh with h | h; exact absurd h h3; exact h)
    obtain ⟨c0, -, -⟩ := h.cells
    clear h hh
    go_enter Tryd.func16, Tryd.ntmps16
    go_wp2_with fail
    refine hA.mono ?_
    rintro e w1 ⟨rfl, hb1⟩
    clear hA
    go_wp2
    go_ret
    exact ⟨rfl, ZP.of_below HZ.out hb1⟩
theorem zgive_no (h : ZB F FZ w z p g c n v L gs) (a o : Int) (ha : -9223372036854775808 ≤ a ∧ a ≤ 9223372036854775807) (hh : 3 < o ∨ hasB n a o = false) :
    Calls Tryd.prog 19 #[.pointer (some ⟨z, 0, none⟩), .int .i64 a, .int .i64 o] w (NoZ F w z n L gs 1) := by
  have HZ : Hid (Zo F w z n L gs) := ⟨_, _, _, _, _, h⟩
  by_cases h3 : 3 < o
  · clear h hh
    go_enter Tryd.func19, Tryd.ntmps19
    go_wp2
    go_ret
    exact ⟨rfl, ZP.of_below HZ.out (Below.refl _ _)⟩
  · have hA := give_no h.sto h.ok a o ha (by rcases hh with h | h; exact absurd h h3; exact h)
    obtain ⟨c0, -, -⟩ := h.cells
    clear h hh
    go_enter Tryd.func19, Tryd.ntmps19
    go_wp2_with fail
    refine hA.mono ?_
    rintro e w1 ⟨rfl, hb1⟩
    clear hA
    go_wp2
    go_ret
    exact ⟨rfl, ZP.of_below HZ.out hb1⟩
/-- Take, where there is no such sort or order. -/
theorem ztake_no (h : Zo F w z n L gs) (s o : Int) (hh : ¬ (0 ≤ s ∧ s ≤ 1) ∨ o < 0 ∨ 3 < o) :
    Calls Tryd.prog 14 #[.pointer (some ⟨z, 0, none⟩), .int .i64 s, .int .i64 o] w fun e w' => e = .returned (.tuple #[.int .i64 0, .iface 28 (.int .i64 1)]) ∧ ZP F w z n L gs w' := by
  have hM := fun w => zmay_any s w
  have HZ : Hid (Zo F w z n L gs) := h
  clear h
  by_cases hs : 0 ≤ s ∧ s ≤ 1
  · rw [decide_eq_true hs] at hM
    rcases (show o < 0 ∨ (¬ o < 0 ∧ 3 < o) by omega) with h1 | ⟨h1, h2⟩
    all_goals
      clear hh hs
      go_enter Tryd.func14, Tryd.ntmps14
      go_wp2_with (go_at_call 33; refine (hM _).mono ?_; rintro e w5 ⟨rfl, hw⟩; obtain rfl := hw.symm; clear hw)
      go_ret2
      exact ⟨rfl, ZP.of_below HZ.out (Below.refl _ _)⟩
  · rw [decide_eq_false hs] at hM
    clear hh hs
    go_enter Tryd.func14, Tryd.ntmps14
    go_wp2_with (go_at_call 33; refine (hM _).mono ?_; rintro e w5 ⟨rfl, hw⟩; obtain rfl := hw.symm; clear hw)
    go_ret2
    exact ⟨rfl, ZP.of_below HZ.out (Below.refl _ _)⟩
/-- A group's cell is stored, behind calls that only make memory. -/
theorem ZB.zset {w3 : World} (h : ZB F FZ w z p g c n v L gs) (hb : Below w.heap.size w w3) {i : Nat} (hi : i < gs.length) (o : Nat) (u : Value) (x : Gp) (h2 : o < 2) (hx : rG.cells x = (rG.cells (gs.getD i (0, false))).set o u) :
    ZP F w z n L (gs.set i x) (w3.setCell ⟨g, i * 2 + o, none⟩ u) :=
  (h.then_set hb (SP.of_below (h.sto.below hb) (Below.refl _ _)) h.ok hi o u x h2 hx).2.2.2.2.2
/-- Close. -/
theorem zclose_yes (h : ZB F FZ w z p g c n v L gs) (k : Nat) (hk : k < gs.length) (hc : (gs.getD k (0, false)).2 = false) :
    Calls Tryd.prog 20 #[.pointer (some ⟨z, 0, none⟩), .int .i64 k] w fun e w' => e = .returned .nilIface ∧ ZP F w z n L (gs.set k ((gs.getD k (0, false)).1, true)) w' := by
  have hH := zhas_any h k
  rw [decide_eq_true (by omega)] at hH
  obtain ⟨c0, c1, c2⟩ := h.cells
  obtain ⟨g0, g1, gf⟩ := h.grp hk
  have hkz : (k : Int) < (gs.length : Int) := by omega
  have HX : Hid (ZP F w z n L (gs.set k ((gs.getD k (0, false)).1, true)) (w.setCell ⟨g, k * 2 + 1, none⟩ (.bool true))) := h.zset (Below.refl _ _) hk 1 (.bool true) ((gs.getD k (0, false)).1, true) (by decide) rfl
  have gf1 := gf (k * 2 + 1)
  rw [hc] at g1
  have hgl := h.lt g h.fg
  clear h c0 c1 hc gf
  go_enter Tryd.func20, Tryd.ntmps20
  go_wp2_with (go_at_call 40; refine hH.mono ?_; rintro e w5 ⟨rfl, hw⟩; obtain rfl := hw.symm; clear hw)
  go_ret
  exact ⟨rfl, HX.out⟩
theorem zclose_no (h : ZB F FZ w z p g c n v L gs) (k : Int) (hk : ¬ (0 ≤ k ∧ k < (gs.length : Int))) :
    Calls Tryd.prog 20 #[.pointer (some ⟨z, 0, none⟩), .int .i64 k] w (NoZ F w z n L gs 1) := by
  have hH := zhas_any h k
  rw [decide_eq_false hk] at hH
  have HZ : Hid (Zo F w z n L gs) := ⟨_, _, _, _, _, h⟩
  clear h hk
  go_enter Tryd.func20, Tryd.ntmps20
  go_wp2_with (go_at_call 40; refine hH.mono ?_; rintro e w5 ⟨rfl, hw⟩; obtain rfl := hw.symm; clear hw)
  go_ret
  exact ⟨rfl, ZP.of_below HZ.out (Below.refl _ _)⟩
theorem zclose_is (h : ZB F FZ w z p g c n v L gs) (k : Nat) (hk : k < gs.length) (hc : (gs.getD k (0, false)).2 = true) :
    Calls Tryd.prog 20 #[.pointer (some ⟨z, 0, none⟩), .int .i64 k] w (NoZ F w z n L gs 7) := by
  have hH := zhas_any h k
  rw [decide_eq_true (by omega)] at hH
  obtain ⟨c0, c1, c2⟩ := h.cells
  obtain ⟨g0, g1, gf⟩ := h.grp hk
  have hkz : (k : Int) < (gs.length : Int) := by omega
  have HZ : Hid (Zo F w z n L gs) := ⟨_, _, _, _, _, h⟩
  rw [hc] at g1
  clear h c0 c1 hc gf
  go_enter Tryd.func20, Tryd.ntmps20
  go_wp2_with (go_at_call 40; refine hH.mono ?_; rintro e w5 ⟨rfl, hw⟩; obtain rfl := hw.symm; clear hw)
  go_ret
  exact ⟨rfl, ZP.of_below HZ.out (Below.refl _ _)⟩
theorem zopen_no (h : ZB F FZ w z p g c n v L gs) (k : Int) (hk : ¬ (0 ≤ k ∧ k < (gs.length : Int))) :
    Calls Tryd.prog 21 #[.pointer (some ⟨z, 0, none⟩), .int .i64 k] w (NoZ F w z n L gs 1) := by
  have hH := zhas_any h k
  rw [decide_eq_false hk] at hH
  have HZ : Hid (Zo F w z n L gs) := ⟨_, _, _, _, _, h⟩
  clear h hk
  go_enter Tryd.func21, Tryd.ntmps21
  go_wp2_with (go_at_call 40; refine hH.mono ?_; rintro e w5 ⟨rfl, hw⟩; obtain rfl := hw.symm; clear hw)
  go_ret
  exact ⟨rfl, ZP.of_below HZ.out (Below.refl _ _)⟩
theorem zopen_is (h : ZB F FZ w z p g c n v L gs) (k : Nat) (hk : k < gs.length) (hc : (gs.getD k (0, false)).2 = false) :
    Calls Tryd.prog 21 #[.pointer (some ⟨z, 0, none⟩), .int .i64 k] w (NoZ F w z n L gs 7) := by
  have hH := zhas_any h k
  rw [decide_eq_true (by omega)] at hH
  obtain ⟨c0, c1, c2⟩ := h.cells
  obtain ⟨g0, g1, gf⟩ := h.grp hk
  have hkz : (k : Int) < (gs.length : Int) := by omega
  have HZ : Hid (Zo F w z n L gs) := ⟨_, _, _, _, _, h⟩
  rw [hc] at g1
  clear h c0 c1 hc gf
  go_enter Tryd.func21, Tryd.ntmps21
  go_wp2_with (go_at_call 40; refine hH.mono ?_; rintro e w5 ⟨rfl, hw⟩; obtain rfl := hw.symm; clear hw)
  go_ret
  exact ⟨rfl, ZP.of_below HZ.out (Below.refl _ _)⟩
end
end Go.Proofs.YtmmbfgkfidconaaDoor
/- Open, Clone. -/
namespace Go.Proofs.YtmmbfgkfidconaaDoor
open Go.RowKit

section
variable {F FZ : Nat → Prop} {w : World} {z p g c n : Nat} {v : Value} {L : List Bk} {gs : List Gp}
theorem set_set (gs : List Gp) (k : Nat) (x y : Gp) : (gs.set k x).set k y = gs.set k y := by
  apply List.ext_getElem?
  intro i
  by_cases h : k = i
  · subst h
    by_cases hl : k < gs.length
    · rw [List.getElem?_set_self (by simpa using hl), List.getElem?_set_self hl]
    · rw [List.getElem?_eq_none (by simp; omega), List.getElem?_eq_none (by simp; omega)]
  · rw [List.getElem?_set_ne h, List.getElem?_set_ne h, List.getElem?_set_ne h]
theorem getD_set (gs : List Gp) {k : Nat} (hk : k < gs.length) (x : Gp) : (gs.set k x).getD k (0, false) = x := by
  rw [List.getD_eq_getElem?_getD, List.getElem?_set_self hk]
  rfl
/-- The groups behind Open. -/
def openG (gs : List Gp) (k : Nat) (r : Bool) : List Gp := gs.set k (if r = true then 1 else (gs.getD k (0, false)).1, false)
set_option maxHeartbeats 2000000 in
theorem zopen_yes (h : ZB F FZ w z p g c n v L gs) (k : Nat) (hk : k < gs.length) (hc : (gs.getD k (0, false)).2 = true) (r : Bool) (hr : r = true ↔ grpFree L n k) :
    Calls Tryd.prog 21 #[.pointer (some ⟨z, 0, none⟩), .int .i64 k] w fun e w' => e = .returned .nilIface ∧ ZP F w z n L (openG gs k r) w' := by
  have hH := zhas_any h k
  rw [decide_eq_true (by omega)] at hH
  obtain ⟨c0, c1, c2⟩ := h.cells
  obtain ⟨g0, g1, gf⟩ := h.grp hk
  have hkz : (k : Int) < (gs.length : Int) := by omega
  have hgl := h.lt g h.fg
  have gf1 := gf (k * 2 + 1)
  rw [hc] at g1
  obtain ⟨w1, hw1⟩ : ∃ w1, w1 = w.setCell ⟨g, k * 2 + 1, none⟩ (.bool false) := ⟨_, rfl⟩
  have Z1 : ZB F FZ w1 z p g c n v L (gs.set k ((gs.getD k (0, false)).1, false)) := by rw [hw1]; exact h.setg k 1 (.bool false) ((gs.getD k (0, false)).1, false) hk (by decide) rfl
  have K1 : Keeps w w1 F := by rw [hw1]; exact (Keeps.set w g _ _).mono fun b _ e => by rw [e]; exact h.fg
  have hG := zgrp_any Z1 k (by simpa using hk) r hr
  have HZ1 : Hid (ZB F FZ w1 z p g c n v L (gs.set k ((gs.getD k (0, false)).1, false)) ∧ Keeps w w1 F) := ⟨Z1, K1⟩
  have HW : Hid (w1 = w.setCell ⟨g, k * 2 + 1, none⟩ (.bool false)) := hw1
  have hlt : ∀ c, F c → c < w.heap.size := h.lt
  have HLT : Hid (∀ c, F c → c < w.heap.size) := hlt
  rw [hw1] at hG
  have HK : Hid (k < gs.length) := hk
  clear h c0 c1 hc gf hr Z1 K1 hw1 hlt hk
  go_enter Tryd.func21, Tryd.ntmps21
  go_wp2_with (go_at_call 40; refine hH.mono ?_; rintro e w5 ⟨rfl, hw⟩; obtain rfl := hw.symm; clear hw)
  refine hG.mono ?_
  rintro e w2 ⟨rfl, hb2⟩
  rw [← HW.out] at hb2
  have Z2 := HZ1.out.1.below hb2
  have fin : ∀ gs' w3, ZP F w1 z n L gs' w3 → ZP F w z n L gs' w3 := fun gs' w3 h3 => by
    have e : w1.heap.size = w.heap.size := by rw [HW.out]; simp
    refine ⟨?_, HZ1.out.2.trans h3.2 fun _ _ h => h⟩
    have h4 := h3.1
    have e2 : nw F w1 w3 = nw F w w3 := by unfold nw; rw [e]
    rwa [e2] at h4
  obtain ⟨-, -, c2'⟩ := Z2.cells
  rw [List.length_set] at c2'
  obtain ⟨g0', -, gf'⟩ := Z2.grp (show k < (gs.set k ((gs.getD k (0, false)).1, false)).length by simpa using HK.out)
  rw [getD_set gs HK.out] at g0'
  have gfk := gf' (k * 2)
  have hgl2 := Z2.lt g Z2.fg
  cases r with
  | true =>
    have HX : Hid (ZP F w z n L (gs.set k (1, false)) (w2.setCell ⟨g, k * 2, none⟩ (.int .i64 1))) := by
      have := HZ1.out.1.zset hb2 (i := k) (by simpa using HK.out) 0 (.int .i64 1) (1, false) (by decide) (by rw [getD_set gs HK.out]; rfl)
      rw [set_set] at this
      exact fin _ _ this
    clear hG hb2 Z2 fin gf' c2 g0 g1 gf1 hH
    go_wp2
    go_ret
    exact ⟨rfl, HX.out⟩
  | false =>
    have HX : Hid (ZP F w z n L (gs.set k ((gs.getD k (0, false)).1, false)) w2) := fin _ _ (ZP.of_below ⟨_, _, _, _, _, HZ1.out.1⟩ hb2)
    clear hG hb2 Z2 fin gf' c2 g0 g1 gf1 hH
    go_wp2
    go_ret
    exact ⟨rfl, HX.out⟩

set_option maxRecDepth 100000 in
set_option maxHeartbeats 2000000 in
theorem zclone_any (h : ZB F FZ w z p g c n v L gs) :
    Calls Tryd.prog 28 #[.pointer (some ⟨z, 0, none⟩)] w fun e w' => ∃ q, e = .returned (.pointer (some ⟨q, 0, none⟩)) ∧ NewZ w n L gs q w' ∧ Below w.heap.size w w' := by
  obtain ⟨c0, c1, c2⟩ := h.cells
  have hC := fun w' (hb : Below w.heap.size w w') => cloneS_any (h.sto.below hb) h.ok
  have hln := h.len
  have hmx := h.ok.max
  have hD := fun w' (hb : Below w.heap.size w w') => clone_rG (h.row.below hb) (by omega)
  have HZ : Hid (ZB F FZ w z p g c n v L gs) := h
  have HC : Hid _ := hC
  have HD : Hid _ := hD
  have hC0 := hC w.drew (Below.refl _ _).drew
  have hzl := h.lt z h.fz
  clear h hln hmx hC hD
  go_enter Tryd.func28, Tryd.ntmps28
  go_wp2
  go_region_held3 (fun w' => w'.cell? ⟨z, 0, none⟩ = some (.pointer (some ⟨p, 0, none⟩)) ∧ w'.cell? ⟨z, 1, none⟩ = some (.int .i64 n) ∧ w'.cell? ⟨z, 2, none⟩ = some (.slice (some ⟨g, 0, none⟩) gs.length c)) (go_keep)
    (first
    | (go_at_call 44; refine hC0.mono ?_; rintro e w4 ⟨q, rfl, hN, hb4⟩; have hc4 : ∀ b o, b < w.heap.size → w4.cell? ⟨b, o, none⟩ = w.cell? ⟨b, o, none⟩ := fun b o hq => (bcell hb4).1 _ _ hq)
    | (go_at_call 45; refine (HD.out _ ((Below.refl _ _).drew.trans hb4)).mono ?_; rintro e w5 ⟨v5, rfl, R5, hb5⟩; obtain ⟨a5, k5, rfl⟩ := R5.form; have hc5 : ∀ b o, b < w4.heap.size → w5.cell? ⟨b, o, none⟩ = w4.cell? ⟨b, o, none⟩ := fun b o hq => (bcell hb5).1 _ _ hq; have hz4 : z < w4.heap.size := Nat.lt_of_lt_of_le hzl hb4.size))
  have HX : Hid (∀ W, W = w5.alloc (.cells #[.pointer (some ⟨q, 0, none⟩), .int .i64 n, .slice a5 gs.length k5] 66) → NewZ w n L gs w5.heap.size W ∧ Below w.heap.size w W) := by
    rintro W rfl
    have hp := HZ.out.pos
    have hl := HZ.out.len
    have hb0 : Below w.heap.size w w4 := (Below.refl _ _).drew.trans hb4
    have hb1 := below_call' hb0 hb5
    obtain ⟨vq, hN⟩ := hN
    have hN' : Sto (fun c => w.heap.size ≤ c ∧ c < w4.heap.size) w4 q n vq L := hN
    rcases R5.cases with ⟨_, e0⟩ | ⟨g5, c5, cur, e5, hg4, hg5, _⟩
    · rw [e0] at hl
      rw [List.length_nil] at hl
      omega
    · cases e5
      have hb : Below w5.heap.size w5 (w5.alloc (.cells #[.pointer (some ⟨q, 0, none⟩), .int .i64 n, .slice (some ⟨g5, 0, none⟩) gs.length k5] 66)) := (Below.refl _ _).alloc (Nat.le_refl _) _
      have hb45 := below_call' hb5 hb
      have s4 := hb0.size
      have s5 := hb5.size
      refine ⟨⟨_, q, g5, k5, vq, hN'.below hb45, HZ.out.ok, Laid.new _ _ _, (R5.below hb).lower (Nat.zero_le _), hl, hp, fun c hc => ⟨hc.1, ?_⟩, ⟨by omega, by simp⟩, ⟨by omega, by simp; omega⟩, fun e => ?_, fun e => ?_, fun c hc => hc.2⟩, below_call' hb1 hb⟩
      · have := hc.2
        simp
        omega
      · have := e.2; omega
      · have := e.2; omega
  clear hN hb4 hc4 hb5 R5 hc5 HC HD hC0
  go_wp2
  go_ret
  exact ⟨_, rfl, (HX.out _ rfl).1, (HX.out _ rfl).2⟩
end
end Go.Proofs.YtmmbfgkfidconaaDoor
/- What the statements' pick answers. -/
namespace Go.Proofs.YtmmbfgkfidconaaDoor
open Go.RowKit

set_option maxHeartbeats 400000 in
theorem pick8_any (c : Int) (n : Nat) (w : World) (h1 : -9223372036854775808 ≤ c) (h2 : c ≤ 9223372036854775807) (hn : 0 < n) (hn' : n ≤ 1000) :
    Calls Tryd.prog 12 #[.int .i64 c, .int .i64 n] w fun e w' => e = .returned (.int .i64 (pickN c n)) ∧ w' = w := by
  have he := pickN_eq c n hn
  have HE : Hid _ := he
  clear he
  by_cases h0 : c < 0
  · obtain ⟨q, hq⟩ : ∃ q, -(c + 1) = q := ⟨_, rfl⟩
    have hq0 : 0 ≤ q := by omega
    have hn0 : ¬ ((n : Int) = 0) := by omega
    go_enter Tryd.func12, Tryd.ntmps12
    go_wp2
    go_ret
    exact ⟨ret_int (by rw [HE.out, if_pos h0, hq]), rfl⟩
  · go_enter Tryd.func12, Tryd.ntmps12
    go_wp2
    go_ret
    exact ⟨ret_int (by rw [HE.out, if_neg (by omega)]), rfl⟩
end Go.Proofs.YtmmbfgkfidconaaDoor
/- A zone of one's own, beside other things that stay: what its calls tell. Condition: the table of math/bits lies as its text lays it. -/
namespace Go.Proofs.YtmmbfgkfidconaaDoor
open Go.RowKit

/-- A zone whose blocks are new since W, beside the blocks of G. -/
def Zn (W w : World) (z n : Nat) (L : List Bk) (gs : List Gp) (G : Nat → Prop) : Prop :=
  ∃ F, (∀ c, F c → W.heap.size ≤ c) ∧ (∀ c, F c → ¬ G c) ∧ Zo F w z n L gs ∧ Below W.heap.size W w ∧ ∀ c, G c → c < w.heap.size
section
variable {W w w' : World} {z n : Nat} {L : List Bk} {gs : List Gp} {G : Nat → Prop}
theorem Zn.frame (h : Zn W w z n L gs G) : Below W.heap.size W w := by
  obtain ⟨F, _, _, _, h, _⟩ := h
  exact h
theorem Zn.ok (h : Zn W w z n L gs G) : Okl n L := by
  obtain ⟨F, _, _, h, _, _⟩ := h
  exact h.ok
theorem Zn.len (h : Zn W w z n L gs G) : gs.length = (n + 7) / 8 ∧ 1 ≤ n ∧ n ≤ 512 := by
  obtain ⟨F, _, _, h, _, _⟩ := h
  exact h.len
theorem Zn.lt (h : Zn W w z n L gs G) : ∀ c, G c → c < w.heap.size := by
  obtain ⟨F, _, _, _, _, h⟩ := h
  exact h
theorem Zo.lt {F : Nat → Prop} (h : Zo F w z n L gs) : ∀ c, F c → c < w.heap.size := by
  obtain ⟨FZ, p, g, c, v, h⟩ := h
  exact h.lt
theorem Zn.below (h : Zn W w z n L gs G) (hb : Below w.heap.size w w') : Zn W w' z n L gs G := by
  obtain ⟨F, h1, h2, h3, h5, h6⟩ := h
  exact ⟨F, h1, h2, h3.below hb, below_call' h5 hb, fun c hc => Nat.lt_of_lt_of_le (h6 c hc) hb.size⟩
theorem Zn.more (h : Zn W w z n L gs G) (hb : Below w.heap.size w w') : Zn W w' z n L gs (plus G w w') := by
  obtain ⟨F, h1, h2, h3, h5, h6⟩ := h
  refine ⟨F, h1, fun c hc e => ?_, h3.below hb, below_call' h5 hb, fun c hc => ?_⟩
  · rcases e with e | e
    · exact h2 c hc e
    · have := h3.lt c hc; omega
  · rcases hc with hc | hc
    · exact Nat.lt_of_lt_of_le (h6 c hc) hb.size
    · exact hc.2
theorem Zn.less {G' : Nat → Prop} (h : Zn W w z n L gs G) (hg : ∀ c, G' c → G c) : Zn W w z n L gs G' := by
  obtain ⟨F, h1, h2, h3, h5, h6⟩ := h
  exact ⟨F, h1, fun c hc e => h2 c hc (hg c e), h3, h5, fun c hc => h6 c (hg c hc)⟩
theorem Zn.other {s : Nat → Prop} (h : Zn W w z n L gs G) (hk : Keeps w w' s) (hs : ∀ c, c < w.heap.size → s c → G c ∧ W.heap.size ≤ c) : Zn W w' z n L gs G := by
  obtain ⟨F, h1, h2, h3, h5, h6⟩ := h
  exact ⟨F, h1, h2, h3.keeps hk fun c hc e => h2 c hc (hs c (h3.lt c hc) e).1, h5.trans (hk.below h5.size fun c hc e => (hs c hc e).2), fun c hc => Nat.lt_of_lt_of_le (h6 c hc) hk.size⟩
theorem Zn.turn {F : Nat → Prop} {L' : List Bk} {gs' : List Gp} (h1 : ∀ c, F c → W.heap.size ≤ c) (h2 : ∀ c, F c → ¬ G c) (h5 : Below W.heap.size W w) (h6 : ∀ c, G c → c < w.heap.size) (hp : ZP F w z n L' gs' w') : Zn W w' z n L' gs' G ∧ Stay G w w' := by
  obtain ⟨s1, s2⟩ := hp
  refine ⟨⟨_, fun c hc => ?_, fun c hc e => ?_, s1, h5.trans (s2.below h5.size fun c _ e => h1 c e), fun c hc => Nat.lt_of_lt_of_le (h6 c hc) s2.size⟩, s2.mono fun c _ e => h2 c e⟩
  · rcases hc with hc | hc
    · exact h1 c hc
    · exact Nat.le_trans h5.size hc.1
  · rcases hc with hc | hc
    · exact h2 c hc e
    · have := h6 c e; omega
theorem Zn.tab (h : Zn W w z n L gs G) (hT : Tab W) : Tab w := hT.below h.frame (Nat.le_refl _)
theorem Zn.of_new (hb : Below W.heap.size W w) (hG : ∀ c, G c → c < w.heap.size) (hn : NewZ w n L gs z w') (hb' : Below w.heap.size w w') : Zn W w' z n L gs G :=
  ⟨_, fun c hc => Nat.le_trans hb.size hc.1, fun c hc e => by have := hG c e; omega, hn, below_call' hb hb', fun c hc => Nat.lt_of_lt_of_le (hG c hc) hb'.size⟩

theorem znNew (hT : Tab W) (hb : Below W.heap.size W w) (hG : ∀ c, G c → c < w.heap.size) (n : Nat) (h1 : 1 ≤ n) (h2 : n ≤ 512) :
    Calls Tryd.prog 9 #[.int .i64 n] w fun e w' => ∃ z, e = .returned (.tuple #[.pointer (some ⟨z, 0, none⟩), .nilIface]) ∧ Zn W w' z n (blkL 0 n) (List.replicate ((n + 7) / 8) (1, false)) G ∧ Below w.heap.size w w' := by
  refine (znew_yes n w (hT.below hb (Nat.le_refl _)) h1 h2).mono ?_
  rintro e w' ⟨z, rfl, hs, hb'⟩
  exact ⟨z, rfl, Zn.of_new hb hG hs hb', hb'⟩
/-- Take's answers. -/
def TakeW (W w : World) (z n : Nat) (L : List Bk) (gs : List Gp) (G : Nat → Prop) (s : Int) (o : Nat) (res : Option Bk) (e : Ending) (w' : World) : Prop :=
  match res with
  | none => e = .returned (.tuple #[.int .i64 0, .iface 28 (.int .i64 5)]) ∧ Zn W w' z n L gs G ∧ Stay G w w'
  | some r => e = .returned (.tuple #[.int .i64 r.1, .nilIface]) ∧ ∃ L', Zn W w' z n L' (gs.set (r.1 / 8) (s, false)) G ∧ Stay G w w' ∧ ∀ x, cov L' x ↔ cov L x ∧ ¬ inB (r.1, o) x
theorem Zn.take (h : Zn W w z n L gs G) (hT : Tab W) (s : Int) (hs : 0 ≤ s ∧ s ≤ 1) (o : Nat) (ho : o ≤ 3) {res : Option Bk} (hz : Zp gs L s o res) :
    Calls Tryd.prog 14 #[.pointer (some ⟨z, 0, none⟩), .int .i64 s, .int .i64 o] w (TakeW W w z n L gs G s o res) := by
  have hTw := h.tab hT
  obtain ⟨F, h1, h2, ⟨FZ, p, g, c, v, h3⟩, h5, h6⟩ := h
  refine (ztake_any h3 hTw s hs o ho hz).mono ?_
  intro e w' ht
  unfold TakeW
  cases res with
  | none => exact ⟨ht.1, Zn.turn h1 h2 h5 h6 ht.2⟩
  | some r =>
    obtain ⟨e1, L', s1, s2⟩ := ht
    have := Zn.turn h1 h2 h5 h6 s1
    exact ⟨e1, L', this.1, this.2, s2⟩
/-- What tells an error, and leaves all as it was. -/
def NoW (W w : World) (z n : Nat) (L : List Bk) (gs : List Gp) (G : Nat → Prop) (k : Int) (e : Ending) (w' : World) : Prop := e = .returned (.iface 28 (.int .i64 k)) ∧ Zn W w' z n L gs G ∧ Stay G w w'
/-- What tells none, and leaves these groups. -/
def YesW (W w : World) (z n : Nat) (L : List Bk) (gs : List Gp) (G : Nat → Prop) (e : Ending) (w' : World) : Prop := e = .returned .nilIface ∧ Zn W w' z n L gs G ∧ Stay G w w'
theorem Zn.takeNo (h : Zn W w z n L gs G) (s o : Int) (hh : ¬ (0 ≤ s ∧ s ≤ 1) ∨ o < 0 ∨ 3 < o) :
    Calls Tryd.prog 14 #[.pointer (some ⟨z, 0, none⟩), .int .i64 s, .int .i64 o] w fun e w' => e = .returned (.tuple #[.int .i64 0, .iface 28 (.int .i64 1)]) ∧ Zn W w' z n L gs G ∧ Stay G w w' := by
  obtain ⟨F, h1, h2, h3, h5, h6⟩ := h
  refine (ztake_no h3 s o hh).mono ?_
  rintro e w' ⟨rfl, hp⟩
  exact ⟨rfl, Zn.turn h1 h2 h5 h6 hp⟩
def TakeAtW (W w : World) (z n : Nat) (L : List Bk) (gs : List Gp) (G : Nat → Prop) (b : Bk) (e : Ending) (w' : World) : Prop :=
  (allB L b true → e = .returned .nilIface ∧ ∃ L', Zn W w' z n L' gs G ∧ Stay G w w' ∧ ∀ x, cov L' x ↔ cov L x ∧ ¬ inB b x) ∧ (¬ allB L b true → NoW W w z n L gs G 7 e w')
theorem Zn.takeAt (h : Zn W w z n L gs G) (hT : Tab W) (b : Bk) (hb : alB b) (h3 : b.2 ≤ 3) (hbn : bend b ≤ n) :
    Calls Tryd.prog 16 #[.pointer (some ⟨z, 0, none⟩), .int .i64 b.1, .int .i64 b.2] w (TakeAtW W w z n L gs G b) := by
  have hTw := h.tab hT
  obtain ⟨F, h1, h2, ⟨FZ, p, g, c, v, hz⟩, h5, h6⟩ := h
  refine (ztakeAt_yes hz hTw b hb h3 hbn).mono ?_
  rintro e w' ⟨t1, t2⟩
  refine ⟨fun ha => ?_, fun ha => ?_⟩
  · obtain ⟨e1, L', s1, s2⟩ := t1 ha
    have := Zn.turn h1 h2 h5 h6 s1
    exact ⟨e1, L', this.1, this.2, s2⟩
  · have := t2 ha
    exact ⟨this.1, Zn.turn h1 h2 h5 h6 this.2⟩
theorem Zn.takeAtNo (h : Zn W w z n L gs G) (a o : Int) (ha : -9223372036854775808 ≤ a ∧ a ≤ 9223372036854775807) (hh : 3 < o ∨ hasB n a o = false) :
    Calls Tryd.prog 16 #[.pointer (some ⟨z, 0, none⟩), .int .i64 a, .int .i64 o] w (NoW W w z n L gs G 1) := by
  obtain ⟨F, h1, h2, ⟨FZ, p, g, c, v, hz⟩, h5, h6⟩ := h
  refine (ztakeAt_no hz a o ha hh).mono ?_
  rintro e w' ⟨e1, hp⟩
  exact ⟨e1, Zn.turn h1 h2 h5 h6 hp⟩
def GiveW (W w : World) (z n : Nat) (L : List Bk) (gs : List Gp) (G : Nat → Prop) (b : Bk) (e : Ending) (w' : World) : Prop :=
  (allB L b false → e = .returned .nilIface ∧ ∃ L', Zn W w' z n L' gs G ∧ Stay G w w' ∧ ∀ x, cov L' x ↔ cov L x ∨ inB b x) ∧ (¬ allB L b false → NoW W w z n L gs G 7 e w')
theorem Zn.give (h : Zn W w z n L gs G) (b : Bk) (hb : alB b) (h3 : b.2 ≤ 3) (hbn : bend b ≤ n) :
    Calls Tryd.prog 19 #[.pointer (some ⟨z, 0, none⟩), .int .i64 b.1, .int .i64 b.2] w (GiveW W w z n L gs G b) := by
  obtain ⟨F, h1, h2, ⟨FZ, p, g, c, v, hz⟩, h5, h6⟩ := h
  refine (zgive_yes hz b hb h3 hbn).mono ?_
  rintro e w' ⟨t1, t2⟩
  refine ⟨fun ha => ?_, fun ha => ?_⟩
  · obtain ⟨e1, L', s1, s2⟩ := t1 ha
    have := Zn.turn h1 h2 h5 h6 s1
    exact ⟨e1, L', this.1, this.2, s2⟩
  · have := t2 ha
    exact ⟨this.1, Zn.turn h1 h2 h5 h6 this.2⟩
theorem Zn.giveNo (h : Zn W w z n L gs G) (a o : Int) (ha : -9223372036854775808 ≤ a ∧ a ≤ 9223372036854775807) (hh : 3 < o ∨ hasB n a o = false) :
    Calls Tryd.prog 19 #[.pointer (some ⟨z, 0, none⟩), .int .i64 a, .int .i64 o] w (NoW W w z n L gs G 1) := by
  obtain ⟨F, h1, h2, ⟨FZ, p, g, c, v, hz⟩, h5, h6⟩ := h
  refine (zgive_no hz a o ha hh).mono ?_
  rintro e w' ⟨e1, hp⟩
  exact ⟨e1, Zn.turn h1 h2 h5 h6 hp⟩
/-- The groups behind Close. -/
def closeG (gs : List Gp) (k : Nat) : List Gp := gs.set k ((gs.getD k (0, false)).1, true)
theorem Zn.close (h : Zn W w z n L gs G) (k : Nat) (hk : k < gs.length) (hc : (gs.getD k (0, false)).2 = false) :
    Calls Tryd.prog 20 #[.pointer (some ⟨z, 0, none⟩), .int .i64 k] w (YesW W w z n L (closeG gs k) G) := by
  obtain ⟨F, h1, h2, ⟨FZ, p, g, c, v, hz⟩, h5, h6⟩ := h
  refine (zclose_yes hz k hk hc).mono ?_
  rintro e w' ⟨e1, hp⟩
  exact ⟨e1, Zn.turn h1 h2 h5 h6 hp⟩
theorem Zn.closeNo (h : Zn W w z n L gs G) (k : Int) (hk : ¬ (0 ≤ k ∧ k < (gs.length : Int))) :
    Calls Tryd.prog 20 #[.pointer (some ⟨z, 0, none⟩), .int .i64 k] w (NoW W w z n L gs G 1) := by
  obtain ⟨F, h1, h2, ⟨FZ, p, g, c, v, hz⟩, h5, h6⟩ := h
  refine (zclose_no hz k hk).mono ?_
  rintro e w' ⟨e1, hp⟩
  exact ⟨e1, Zn.turn h1 h2 h5 h6 hp⟩
theorem Zn.closeIs (h : Zn W w z n L gs G) (k : Nat) (hk : k < gs.length) (hc : (gs.getD k (0, false)).2 = true) :
    Calls Tryd.prog 20 #[.pointer (some ⟨z, 0, none⟩), .int .i64 k] w (NoW W w z n L gs G 7) := by
  obtain ⟨F, h1, h2, ⟨FZ, p, g, c, v, hz⟩, h5, h6⟩ := h
  refine (zclose_is hz k hk hc).mono ?_
  rintro e w' ⟨e1, hp⟩
  exact ⟨e1, Zn.turn h1 h2 h5 h6 hp⟩
theorem Zn.open (h : Zn W w z n L gs G) (k : Nat) (hk : k < gs.length) (hc : (gs.getD k (0, false)).2 = true) (r : Bool) (hr : r = true ↔ grpFree L n k) :
    Calls Tryd.prog 21 #[.pointer (some ⟨z, 0, none⟩), .int .i64 k] w (YesW W w z n L (openG gs k r) G) := by
  obtain ⟨F, h1, h2, ⟨FZ, p, g, c, v, hz⟩, h5, h6⟩ := h
  refine (zopen_yes hz k hk hc r hr).mono ?_
  rintro e w' ⟨e1, hp⟩
  exact ⟨e1, Zn.turn h1 h2 h5 h6 hp⟩
theorem Zn.openNo (h : Zn W w z n L gs G) (k : Int) (hk : ¬ (0 ≤ k ∧ k < (gs.length : Int))) :
    Calls Tryd.prog 21 #[.pointer (some ⟨z, 0, none⟩), .int .i64 k] w (NoW W w z n L gs G 1) := by
  obtain ⟨F, h1, h2, ⟨FZ, p, g, c, v, hz⟩, h5, h6⟩ := h
  refine (zopen_no hz k hk).mono ?_
  rintro e w' ⟨e1, hp⟩
  exact ⟨e1, Zn.turn h1 h2 h5 h6 hp⟩
theorem Zn.openIs (h : Zn W w z n L gs G) (k : Nat) (hk : k < gs.length) (hc : (gs.getD k (0, false)).2 = false) :
    Calls Tryd.prog 21 #[.pointer (some ⟨z, 0, none⟩), .int .i64 k] w (NoW W w z n L gs G 7) := by
  obtain ⟨F, h1, h2, ⟨FZ, p, g, c, v, hz⟩, h5, h6⟩ := h
  refine (zopen_is hz k hk hc).mono ?_
  rintro e w' ⟨e1, hp⟩
  exact ⟨e1, Zn.turn h1 h2 h5 h6 hp⟩
theorem Zn.sort (h : Zn W w z n L gs G) (k : Nat) (hk : k < gs.length) :
    Calls Tryd.prog 25 #[.pointer (some ⟨z, 0, none⟩), .int .i64 k] w fun e w' => e = .returned (.tuple #[.int .i64 (gs.getD k (0, false)).1, .nilIface]) ∧ w' = w := by
  obtain ⟨F, h1, h2, ⟨FZ, p, g, c, v, hz⟩, h5, h6⟩ := h
  exact zsort_yes hz k hk
theorem Zn.sortNo (h : Zn W w z n L gs G) (k : Int) (hk : ¬ (0 ≤ k ∧ k < (gs.length : Int))) :
    Calls Tryd.prog 25 #[.pointer (some ⟨z, 0, none⟩), .int .i64 k] w fun e w' => e = .returned (.tuple #[.int .i64 0, .iface 28 (.int .i64 1)]) ∧ w' = w := by
  obtain ⟨F, h1, h2, ⟨FZ, p, g, c, v, hz⟩, h5, h6⟩ := h
  exact zsort_no hz k hk
theorem Zn.closed (h : Zn W w z n L gs G) (k : Int) :
    Calls Tryd.prog 23 #[.pointer (some ⟨z, 0, none⟩), .int .i64 k] w fun e w' => e = .returned (.bool (gclB gs k)) ∧ w' = w := by
  obtain ⟨F, h1, h2, ⟨FZ, p, g, c, v, hz⟩, h5, h6⟩ := h
  exact zclosed_any hz k
theorem Zn.groups (h : Zn W w z n L gs G) : Calls Tryd.prog 24 #[.pointer (some ⟨z, 0, none⟩)] w fun e w' => e = .returned (.int .i64 gs.length) ∧ w' = w := by
  obtain ⟨F, h1, h2, ⟨FZ, p, g, c, v, hz⟩, h5, h6⟩ := h
  exact zgroups_any hz
theorem Zn.free (h : Zn W w z n L gs G) : Calls Tryd.prog 27 #[.pointer (some ⟨z, 0, none⟩)] w (ClonePrB w L) := by
  obtain ⟨F, h1, h2, ⟨FZ, p, g, c, v, hz⟩, h5, h6⟩ := h
  exact zfree_any hz
theorem Zn.isFree (h : Zn W w z n L gs G) (k : Int) : Calls Tryd.prog 26 #[.pointer (some ⟨z, 0, none⟩), .int .i64 k] w fun e w' => e = .returned (.bool (freeB L k)) ∧ Below w.heap.size w w' := by
  obtain ⟨F, h1, h2, ⟨FZ, p, g, c, v, hz⟩, h5, h6⟩ := h
  exact zisFree_any hz k
theorem Zn.clone (h : Zn W w z n L gs G) : Calls Tryd.prog 28 #[.pointer (some ⟨z, 0, none⟩)] w fun e w' => ∃ q, e = .returned (.pointer (some ⟨q, 0, none⟩)) ∧ NewZ w n L gs q w' ∧ Below w.heap.size w w' := by
  obtain ⟨F, h1, h2, ⟨FZ, p, g, c, v, hz⟩, h5, h6⟩ := h
  exact zclone_any hz
end
end Go.Proofs.YtmmbfgkfidconaaDoor
/- The document's example: up returns true. Condition: the table of math/bits lies as its text lays it. -/
namespace Go.Proofs.YtmmbfgkfidconaaDoor
open Go.RowKit

def exL0 : List Bk := [(0, 4), (16, 3)]
def exL1 : List Bk := [(1, 0), (2, 1), (4, 2), (8, 3), (16, 3)]
def exG1 : List Gp := [(0, false), (1, false), (1, false)]
theorem blk24 : blkL 0 24 = exL0 := by decide
theorem ex_one : Zp (List.replicate 3 (1, false)) exL0 0 0 (some (0, 3)) := by
  have ok0 := new_okl (n := 24) (by decide)
  rw [blk24] at ok0
  refine Or.inr ⟨?_, ⟨?_, ?_⟩⟩
  · rintro r ⟨_, _, x, hx, _, h⟩
    rw [List.getElem?_replicate] at hx
    split at hx
    · cases hx
      have := h 0 rfl
      simp at this
    · cases hx
  · exact ⟨⟨(0, 4), by simp [exL0], Or.inr ⟨by decide, rfl, by decide, by decide, by decide⟩⟩, by decide, ⟨(1, false), rfl, rfl, fun t e => by cases e⟩⟩
  · rintro r ⟨h, _, _⟩
    have := (h.facts ok0).1
    rw [bet_true]
    simp
    omega
theorem good_ex : Good exL1 := by
  refine ⟨fun b hb => ?_, by decide, fun b hb h5 hd => ?_⟩
  · simp [exL1] at hb
    rcases hb with rfl | rfl | rfl | rfl | rfl <;> exact ⟨by decide, by decide⟩
  · have hn : ∀ x, (x = 0 ∨ 24 ≤ x) → ¬ cov exL1 x := by
      rintro x hx ⟨c, hc, h1, h2⟩
      simp [exL1] at hc
      rcases hc with rfl | rfl | rfl | rfl | rfl <;> simp [bend] at h1 h2 <;> omega
    simp [exL1] at hb
    rcases hb with rfl | rfl | rfl | rfl | rfl
    · exact absurd hd (by decide)
    · exact absurd hd (by decide)
    · exact absurd hd (by decide)
    · exact absurd hd (by decide)
    · exact ⟨24, by decide, by decide, hn 24 (Or.inr (by decide))⟩
theorem ex_cov (x : Nat) : cov exL1 x ↔ cov exL0 x ∧ ¬ inB (0, 0) x := by
  simp [cov, exL0, exL1, inB, bend]
  omega
theorem ex_two : Zp exG1 exL1 1 0 (some (8, 3)) := by
  refine Or.inl ⟨(8, 3), rfl, ⟨⟨(8, 3), by simp [exL1], Or.inl ⟨by decide, rfl⟩⟩, by decide, ⟨(1, false), rfl, rfl, fun t e => by cases e; rfl⟩⟩, ?_⟩
  rintro r ⟨⟨b, hb, h⟩, _, x, hx, _, hs⟩
  have hb3 : b.2 ≤ 3 := by
    simp [exL1] at hb
    rcases hb with rfl | rfl | rfl | rfl | rfl <;> decide
  rcases h with ⟨_, rfl⟩ | ⟨h, _⟩
  · have h1 := hs 1 rfl
    rw [bet_true]
    simp [exL1] at hb
    rcases hb with rfl | rfl | rfl | rfl | rfl
    · simp [exG1] at hx; subst hx; simp at h1
    · simp [exG1] at hx; subst hx; simp at h1
    · simp [exG1] at hx; subst hx; simp at h1
    · simp
    · simp
  · omega

set_option maxRecDepth 100000 in
set_option maxHeartbeats 4000000 in
theorem up8_any (w : World) (hT : Tab w) : Calls Tryd.prog 8 #[] w fun e w' => e = .returned (.bool true) ∧ Below w.heap.size w w' := by
  have hN := znNew (G := fun _ => False) hT (Below.refl _ _) (fun _ h => h.elim) 24 (by decide) (by decide)
  rw [blk24] at hN
  have HT : Hid (Tab w) := hT
  clear hT
  go_enter Tryd.func8, Tryd.ntmps8
  go_wp2_with fail
  refine hN.mono ?_
  rintro e w1 ⟨z, rfl, Z1, hb1⟩
  have hK := Z1.take HT.out 0 (by decide) 0 (by decide) ex_one
  unfold TakeW at hK
  simp only at hK
  clear hN hb1 Z1
  go_wp2_with fail
  refine hK.mono ?_
  rintro e w2 ⟨rfl, L2, Z2, -, cv⟩
  have e2 : L2 = exL1 := Z2.ok.good.unique good_ex fun x => (cv x).trans (ex_cov x).symm
  subst e2
  have hS := Z2.sort 0 (by decide)
  have hK2 := Z2.take (gs := exG1) HT.out 1 (by decide) 0 (by decide) ex_two
  unfold TakeW at hK2
  simp only at hK2
  clear hK cv Z2
  go_wp2_with (go_at_call 25; refine hS.mono ?_; rintro e w5 ⟨rfl, hw⟩; obtain rfl := hw.symm; clear hw)
  refine hK2.mono ?_
  rintro e w3 ⟨rfl, L3, Z3, -, -⟩
  have HB : Hid (Below w.heap.size w w3) := Z3.frame
  clear hK2 Z3 hS
  go_wp2
  go_ret
  exact ⟨rfl, HB.out⟩
end Go.Proofs.YtmmbfgkfidconaaDoor
