/- What (*buddy.Store).Give does. -/
import Derived.Test.YtbpihdeinkopfaaDoorUJoin
import Derived.Test.YtbpihdeinkopfaaDoorZReg
namespace Go.Proofs.YtbpihdeinkopfaaDoor
open Go.RowKit

theorem upTo_meets {L : List Bk} (g : Good L) (b : Bk) : upTo L (behind L b.1) ((bend b : Nat) - 1 : Int) = false ↔ allB L b false := by
  have hb := bend_pos b
  have hm := g.meets_iff b.1 (bend b) hb
  have e : upTo L (behind L b.1) ((bend b : Nat) - 1 : Int) = true ↔ ∃ c, L[behind L b.1]? = some c ∧ c.1 < bend b := by
    unfold upTo
    cases h : L[behind L b.1]? with
    | none => simp
    | some c =>
      simp only [decide_eq_true_eq, Option.some.injEq, exists_eq_left']
      omega
  rw [← hm] at e
  constructor
  · intro h x hx
    rw [covB_false]
    intro hc
    have := e.2 ⟨x, hx.1, hx.2, hc⟩
    rw [h] at this
    cases this
  · intro h
    cases h2 : upTo L (behind L b.1) ((bend b : Nat) - 1 : Int) with
    | false => rfl
    | true =>
      obtain ⟨x, h3, h4, h5⟩ := e.1 h2
      have := h x ⟨h3, h4⟩
      rw [(covB_iff _ _).2 h5] at this
      cases this

/-- Give's answers. -/
def GiveP (F : Nat → Prop) (w : World) (p n : Nat) (L : List Bk) (b : Bk) (e : Ending) (w' : World) : Prop :=
  (allB L b false → e = .returned .nilIface ∧ ∃ L', SP F w p n L' w' ∧ Okl n L' ∧ ∀ x, cov L' x ↔ cov L x ∨ inB b x) ∧ (¬ allB L b false → e = .returned (.iface 28 (.int .i64 7)) ∧ Below w.heap.size w w')
set_option maxHeartbeats 2000000 in
theorem give_no {F : Nat → Prop} {w : World} {p n : Nat} {v : Value} {L : List Bk} (hs : Sto F w p n v L) (ho : Okl n L) (z o : Int) (hz : -9223372036854775808 ≤ z ∧ z ≤ 9223372036854775807) (h : hasB n z o = false) :
    Calls Tryd.prog 19 #[.pointer (some ⟨p, 0, none⟩), .int .i64 z, .int .i64 o] w fun e w' => e = .returned (.iface 28 (.int .i64 1)) ∧ Below w.heap.size w w' := by
  have hH := hasBlock_any hs ho.max z o hz
  rw [h] at hH
  clear hs ho h
  go_enter Tryd.func19, Tryd.ntmps19
  go_wp2_with fail
  refine hH.mono ?_
  rintro e w1 ⟨rfl, hb⟩
  go_wp2
  go_ret
  exact ⟨rfl, hb⟩

/-- What the last statement leaves: the row that Insert told, and what storing it makes. -/
def InsP (F : Nat → Prop) (w : World) (p n A : Nat) (v : Value) (x1 x2 : Int) (L' : List Bk) (e : Ending) (w5 : World) : Prop :=
  ∃ ao' n' c', e = .returned (.slice ao' n' c') ∧ w5.cell? ⟨p, 1, none⟩ = some v ∧ w5.frozen? ⟨p, 1, none⟩ = false ∧ w5.cell? ⟨A, 0, none⟩ = some (.int .i64 x1) ∧ w5.cell? ⟨A, 1, none⟩ = some (.int .i64 x2) ∧ SP F w p n L' (w5.setCell ⟨p, 1, none⟩ (.slice ao' n' c'))
theorem insP_any {F : Nat → Prop} {W : World} {p n : Nat} {v : Value} {L : List Bk} {A : Nat} {x1 x2 : Int} (hs : Sto F W p n v L) (hA0 : W.cell? ⟨A, 0, none⟩ = some (.int .i64 x1)) (hA1 : W.cell? ⟨A, 1, none⟩ = some (.int .i64 x2)) (hvA : v.ownBlock ≠ some A) (hlen : L.length ≤ 512) (i : Nat) (hi : i ≤ L.length) (x : Bk) :
    ∀ (w4 : World) (q : Nat), Below W.heap.size W w4 → W.heap.size ≤ q → Row rB 0 w4 (.slice (some ⟨q, 0, none⟩) 1 1) [x] →
      Calls Tryd.prog 35 #[v, .int .i64 i, .slice (some ⟨q, 0, none⟩) 1 1] w4 (InsP F W p n A v x1 x2 (L.take i ++ ([x] ++ L.drop i))) := by
  intro w4 q hb hq hr
  have h4 := hs.below hb
  have hlt := World.block_lt_of_cell? W _ hA0
  refine (insert_rB (M := [x]) h4.row hr (fun e => ?_) (by simp) (by simp; omega) (Nat.zero_le _) i hi).mono ?_
  · have := hs.lt q (hs.fv q e)
    omega
  · rintro e w5 ⟨v', rfl, h1, h2, h3⟩
    obtain ⟨ao', c', rfl⟩ := h1.form
    obtain ⟨y1, y2, y3⟩ := hs.turn hb h1 h2 h3
    refine ⟨_, _, _, rfl, y1, y2, ?_, ?_, y3⟩
    · rw [h2.cell (Nat.lt_of_lt_of_le hlt hb.size) hvA, (bcell hb).1 A 0 hlt]
      exact hA0
    · rw [h2.cell (Nat.lt_of_lt_of_le hlt hb.size) hvA, (bcell hb).1 A 1 hlt]
      exact hA1

/-- A row of one, as it is laid. -/
theorem row_one_new (w : World) (b : Bk) : Row rB 0 (w.alloc (.cells #[.int .i64 b.1, .int .i64 b.2] 48)) (.slice (some ⟨w.heap.size, 0, none⟩) 1 1) [b] := by
  have := Row.of_cells (R := rB) (B := 0) (l' := [b]) (c := 1) (cur := #[.int .i64 b.1, .int .i64 b.2]) (Nat.zero_le _) (heap_alloc_new w _) (by simp) (by unfold maxLen; omega) (by rfl) (fun k hk j hj => by
    simp at hk
    subst hk
    have hj' : j < 2 := hj
    match j, hj' with
    | 0, _ => rfl
    | 1, _ => rfl)
  exact this
/-- Four ways one behind the other. -/
theorem SP.chain {F : Nat → Prop} {w w3 w5 w6 w7 : World} {p n A : Nat} {L : List Bk} (h1 : Below w.heap.size w w3) (h2 : Keeps w3 w5 F) (h3 : Keeps w5 w6 (fun b => b = A)) (hA : w.heap.size ≤ A) (hF : ∀ c, F c → c < w.heap.size) (h : SP (nw F w3 w5) w6 p n L w7) : SP F w p n L w7 := by
  obtain ⟨v, g1, g2⟩ := h
  have s1 := h1.size
  have s2 := h2.size
  have s3 := h3.size
  have s4 := g2.size
  have up : ∀ c, nw (nw F w3 w5) w6 w7 c → nw F w w7 c := fun c hc => by
    rcases hc with (hc | hc) | hc
    · exact Or.inl hc
    · exact Or.inr (by omega)
    · exact Or.inr (by omega)
  refine ⟨v, ⟨g1.laid, g1.row, up _ g1.fp, fun g hg => up _ (g1.fv g hg), fun c hc => ?_⟩, ?_⟩
  · rcases hc with hc | hc
    · have := hF c hc
      omega
    · exact hc.2
  · refine (((Keeps.of_below h1 F).trans h2 fun _ _ e => e).trans h3 fun b hb e => by omega).trans g2 fun b hb e => ?_
    rcases e with e | e
    · exact e
    · omega

set_option maxRecDepth 100000 in
set_option maxHeartbeats 4000000 in
theorem give_any {F : Nat → Prop} {w : World} {p n : Nat} {v : Value} {L : List Bk} (hs : Sto F w p n v L) (ho : Okl n L) (b : Bk) (hb : alB b) (hbn : bend b ≤ n) :
    Calls Tryd.prog 19 #[.pointer (some ⟨p, 0, none⟩), .int .i64 b.1, .int .i64 b.2] w (GiveP F w p n L b) := by
  have hmx := ho.max
  have hbp := bend_pos b
  have hH := hasBlock_any hs ho.max b.1 b.2 (by omega)
  rw [hasB_of hb hbn] at hH
  have HU : Hid (upTo L (behind L b.1) ((bend b : Nat) - 1 : Int) = false ↔ allB L b false) := upTo_meets ho.good b
  have HS : Hid (Sto F w p n v L) := hs
  have HO : Hid (Okl n L) := ho
  have HA : Hid (alB b) := hb
  have HJ0 : Hid (allB L b false → Jn n L b L b) := fun hall => ⟨ho, hb, hbn, fun x hx hc => (by have := hall x hx; rw [(covB_iff _ _).2 hc] at this; cases this), fun x => Iff.rfl⟩
  have hE1 := fun w => end_any b w (by omega) (Nat.le_trans hb.1 (by decide))
  unfold bval at hE1
  clear hs ho hb
  go_enter Tryd.func19, Tryd.ntmps19
  go_wp2_with fail
  refine hH.mono ?_
  rintro e w1 ⟨rfl, hb1⟩
  have hbW : Below w.heap.size w (w1.alloc (.cells #[.int .i64 b.1, .int .i64 b.2] 48)) := hb1.alloc hb1.size _
  have hlW := Laid.new w1 48 #[.int .i64 b.1, .int .i64 b.2]
  have hz1 : w.heap.size ≤ w1.heap.size := hb1.size
  have HBW : Hid (Below w.heap.size w (w1.alloc (.cells #[.int .i64 b.1, .int .i64 b.2] 48))) := hbW
  have HLW : Hid (Laid (w1.alloc (.cells #[.int .i64 b.1, .int .i64 b.2] 48)) w1.heap.size 48 #[.int .i64 b.1, .int .i64 b.2]) := hlW
  clear hb1 hbW hlW hH
  go_wp2
  go_name_world W hW
  have BW : Below w.heap.size w W := by rw [← hW]; exact HBW.out
  have LW : Laid W w1.heap.size 48 #[.int .i64 b.1, .int .i64 b.2] := by rw [← hW]; exact HLW.out
  have SW := HS.out.below BW
  have hEB := endsBehind_any (SW.below (Below.refl _ _).drew) HO.out b.1
  rw [Int.toNat_natCast] at hEB
  have hUB := fun w' (h : Below W.heap.size W w') => beginsUpTo_any (SW.below h) (behind L b.1) ((bend b : Nat) - 1 : Int)
  have m0 := LW.cell 0
  have m1 := LW.cell 1
  have mz := LW.lt
  simp at m0 m1
  generalize hAe : w1.heap.size = A at *
  have HBW2 : Hid (Below w.heap.size w W) := BW
  have HLW2 : Hid (Laid W A 48 #[.int .i64 b.1, .int .i64 b.2]) := LW
  have hpA : ¬ (p = A) := by have := HS.out.lt p HS.out.fp; omega
  have hwA : w.heap.size ≤ A := hz1
  generalize bend b = eb at *
  generalize behind L b.1 = i at *
  have hbb : (eb : Int) ≤ 512 := by omega
  have hw : IntKind.i64.wrap ((eb : Int) - 1) = (eb : Int) - 1 := by rw [IntKind.wrap_i64]; omega
  have hUB' : Hid _ := hUB
  clear hUB hW BW LW SW HBW HLW hAe hz1
  cases hu : upTo L i ((eb : Nat) - 1 : Int) with
  | true =>
    rw [hu] at hUB' HU
    go_region_held3 (fun w' => w'.cell? ⟨A, 0, none⟩ = some (.int .i64 b.1) ∧ w'.cell? ⟨A, 1, none⟩ = some (.int .i64 b.2)) (go_keep)
      (first
      | (go_at_call 31; refine hEB.mono ?_; rintro e w2 ⟨rfl, hb2⟩; have hx2 : ∀ o, w2.cell? ⟨A, o, none⟩ = W.cell? ⟨A, o, none⟩ := (fun o => (bcell hb2).1 A o mz))
      | (go_at_call 33; refine (hE1 _).mono ?_; rintro e w3 ⟨rfl, hb3⟩; have hx3 : ∀ o, w3.cell? ⟨A, o, none⟩ = W.cell? ⟨A, o, none⟩ := (fun o => ((bcell hb3).1 A o (Nat.lt_of_lt_of_le mz hb2.size)).trans (hx2 o)))
      | (go_at_call 32; refine (hUB'.out _ (below_call' ((Below.refl _ _).drew.trans hb2) hb3)).mono ?_; rintro e w4 ⟨rfl, hw4⟩; obtain rfl := hw4.symm; clear hw4))
    have HB3 : Hid (Below w.heap.size w w3) := below_call' HBW2.out (below_call' ((Below.refl _ _).drew.trans hb2) hb3)
    clear hb2 hb3 hx2 hx3 hEB hUB' hE1
    go_wp2
    go_ret
    refine ⟨fun h => ?_, fun _ => ⟨rfl, HB3.out⟩⟩
    have := HU.out.2 h
    cases this
  | false =>
    rw [hu] at hUB' HU
    go_region_held3 (fun w' => w'.cell? ⟨A, 0, none⟩ = some (.int .i64 b.1) ∧ w'.cell? ⟨A, 1, none⟩ = some (.int .i64 b.2)) (go_keep)
      (first
      | (go_at_call 31; refine hEB.mono ?_; rintro e w2 ⟨rfl, hb2⟩; have hx2 : ∀ o, w2.cell? ⟨A, o, none⟩ = W.cell? ⟨A, o, none⟩ := (fun o => (bcell hb2).1 A o mz))
      | (go_at_call 33; refine (hE1 _).mono ?_; rintro e w3 ⟨rfl, hb3⟩; have hx3 : ∀ o, w3.cell? ⟨A, o, none⟩ = W.cell? ⟨A, o, none⟩ := (fun o => ((bcell hb3).1 A o (Nat.lt_of_lt_of_le mz hb2.size)).trans (hx2 o)))
      | (go_at_call 32; refine (hUB'.out _ (below_call' ((Below.refl _ _).drew.trans hb2) hb3)).mono ?_; rintro e w4 ⟨rfl, hw4⟩; obtain rfl := hw4.symm; clear hw4))
    have hX3 : Below W.heap.size W w3 := below_call' ((Below.refl _ _).drew.trans hb2) hb3
    have hB3 : Below w.heap.size w w3 := below_call' HBW2.out hX3
    have S3 := HS.out.below hB3
    have hall := HU.out.1 (by first | trivial | rfl)
    have hJ := joined_any S3 b (HJ0.out hall)
    unfold bval at hJ
    have LA3 := HLW2.out.below hX3
    have HALL : Hid (allB L b false) := hall
    have HB3 : Hid (Below w.heap.size w w3) := hB3
    have HLA3 : Hid (Laid w3 A 48 #[.int .i64 b.1, .int .i64 b.2]) := LA3
    clear hb2 hb3 hx2 hx3 hEB hUB' hE1 hX3 hB3 S3 hall LA3 HU hu
    go_wp2_with fail
    refine hJ.mono ?_
    rintro e w5 ⟨L2, b2, rfl, ⟨v2, S5, K5⟩, J5, N5⟩
    have hF := HS.out.lt
    have nA : ∀ c, nw F w3 w5 c → ¬ c = A := fun c hc e => by
      have h0 := HLA3.out.lt
      rcases hc with hc | hc
      · have := hF c hc; omega
      · omega
    have LA5 : Laid w5 A 48 #[.int .i64 b.1, .int .i64 b.2] := (K5.block A HLA3.out.lt fun e => by have := hF A e; omega).trans HLA3.out
    have l0 := LA5.cell 0
    have l1 := LA5.cell 1
    have lf := LA5.frozen
    have ll := LA5.lt
    simp at l0 l1
    have K6 : Keeps w5 ((w5.setCell ⟨A, 0, none⟩ (.int .i64 b2.1)).setCell ⟨A, 1, none⟩ (.int .i64 b2.2)) (fun b => b = A) := (Keeps.set _ _ _ _).trans (Keeps.set _ _ _ _) fun _ _ h => h
    have S6 := S5.keeps K6 nA
    have L6 : Laid ((w5.setCell ⟨A, 0, none⟩ (.int .i64 b2.1)).setCell ⟨A, 1, none⟩ (.int .i64 b2.2)) A 48 #[.int .i64 b2.1, .int .i64 b2.2] := heap_setCell_same _ _ 1 _ _ _ (heap_setCell_same w5 _ 0 _ _ _ LA5)
    have HK6 : Hid (Keeps w5 ((w5.setCell ⟨A, 0, none⟩ (.int .i64 b2.1)).setCell ⟨A, 1, none⟩ (.int .i64 b2.2)) (fun b => b = A)) := K6
    have HK5 : Hid (Keeps w3 w5 F) := K5
    have HS6 : Hid (Sto (nw F w3 w5) ((w5.setCell ⟨A, 0, none⟩ (.int .i64 b2.1)).setCell ⟨A, 1, none⟩ (.int .i64 b2.2)) p n v2 L2) := S6
    have HL6 : Hid (Laid ((w5.setCell ⟨A, 0, none⟩ (.int .i64 b2.1)).setCell ⟨A, 1, none⟩ (.int .i64 b2.2)) A 48 #[.int .i64 b2.1, .int .i64 b2.2]) := L6
    have HvA : Hid (v2.ownBlock ≠ some A) := fun e => nA A (S5.fv A e) rfl
    obtain ⟨o5, c5⟩ := J5.done N5
    have HD : Hid (Okl n (L2.take (behind L2 b2.1) ++ ([b2] ++ L2.drop (behind L2 b2.1))) ∧ ∀ x, cov (L2.take (behind L2 b2.1) ++ ([b2] ++ L2.drop (behind L2 b2.1))) x ↔ cov L x ∨ inB b x) := ⟨o5, c5⟩
    have HO2 : Hid (Okl n L2) := J5.ok
    clear K6 S6 L6 LA5 S5 K5 J5 N5 o5 c5 nA hJ HLA3 hF
    unfold bval
    go_wp2
    go_name_world W6 hW6
    have S6 : Sto (nw F w3 w5) W6 p n v2 L2 := by rw [← hW6]; exact HS6.out
    have L6 : Laid W6 A 48 #[.int .i64 b2.1, .int .i64 b2.2] := by rw [← hW6]; exact HL6.out
    have K6 : Keeps w5 W6 (fun b => b = A) := by rw [← hW6]; exact HK6.out
    have hE6 := fun w' (h : Below W6.heap.size W6 w') => endsBehind_any (S6.below h) HO2.out b2.1
    simp only [Int.toNat_natCast] at hE6
    have t0 := L6.cell 0
    have t1 := L6.cell 1
    have tz := L6.lt
    simp at t0 t1
    have hI6 := insP_any S6 t0 t1 HvA.out HO2.out.len (behind L2 b2.1) (behind_le _ _) b2
    obtain ⟨s0, s1, s2, s3⟩ := S6.p0
    have HK6' : Hid (Keeps w5 W6 (fun b => b = A)) := K6
    generalize behind L2 b2.1 = j at *
    generalize L2.take j ++ ([b2] ++ L2.drop j) = L3 at *
    have HE6 : Hid _ := hE6
    have HI6 : Hid _ := hI6
    clear hE6 hI6 S6 L6 K6 hW6 HK6 HS6 HL6 HvA l0 l1 lf ll
    have hx0 : ∀ w', Below W6.heap.size W6 w' → ∀ o, w'.cell? ⟨A, o, none⟩ = W6.cell? ⟨A, o, none⟩ := fun w' h o => (bcell h).1 A o tz
    have HX0 : Hid _ := hx0
    clear hx0
    have KEEP : Hid (∀ w', Below W6.heap.size W6 w' → w'.cell? ⟨p, 1, none⟩ = some v2 ∧ w'.cell? ⟨A, 0, none⟩ = some (.int .i64 b2.1) ∧ w'.cell? ⟨A, 1, none⟩ = some (.int .i64 b2.2)) := fun w' h => ⟨((bcell h).1 p 1 s3).trans s1, ((bcell h).1 A 0 tz).trans t0, ((bcell h).1 A 1 tz).trans t1⟩
    refine wp_region_X (fun w' => w'.cell? ⟨p, 1, none⟩ = some v2 ∧ w'.cell? ⟨A, 0, none⟩ = some (.int .i64 b2.1) ∧ w'.cell? ⟨A, 1, none⟩ = some (.int .i64 b2.2)) [14] (by kernel_rfl) ?_
    have hHeld := KEEP.out W6.drew (Below.refl _ _).drew
    refine wpAnyX_take (i := 0) (v := ?v0) rfl (by kernel_rfl) (by kernel_rfl) (by kernel_rfl) (by kernel_rfl) (by kernel_rfl) (fun _ _ _ h => h) (Or.inl ⟨by rfl, ?hy0⟩) hHeld ?rest0
    case hy0 => intro w hSw; (try dsimp only at hSw); go_simp; try with_reducible rfl
    case rest0 =>
    simp only [Act.put, List.setIfInBounds_toArray, List.set_cons_zero, List.set_cons_succ, List.getElem_toArray, List.getElem_cons_zero]
    refine wpAnyX_take (i := 1) (v := ?v1) rfl (by kernel_rfl) (by kernel_rfl) (by kernel_rfl) (by kernel_rfl) (by kernel_rfl) (fun _ _ _ h => h) (Or.inl ⟨by rfl, ?hy1⟩) hHeld ?rest1
    case hy1 => intro w hSw; (try dsimp only at hSw); go_simp; try with_reducible rfl
    case rest1 =>
    simp only [Act.put, List.setIfInBounds_toArray, List.set_cons_zero, List.set_cons_succ, List.getElem_toArray, List.getElem_cons_zero, List.getElem_cons_succ]
    refine wpAnyX_take (i := 2) (v := ?v2) rfl (by kernel_rfl) (by kernel_rfl) (by kernel_rfl) (by kernel_rfl) (by kernel_rfl) (fun _ _ _ h => h) (Or.inl ⟨by rfl, ?hy2⟩) hHeld ?rest2
    case hy2 => intro w hSw; (try dsimp only at hSw); go_simp; try with_reducible rfl
    case rest2 =>
    simp only [Act.put, List.setIfInBounds_toArray, List.set_cons_zero, List.set_cons_succ, List.getElem_toArray, List.getElem_cons_zero, List.getElem_cons_succ]
    refine wpAnyX_take (i := 3) (v := ?v3) rfl (by kernel_rfl) (by kernel_rfl) (by kernel_rfl) (by kernel_rfl) (by kernel_rfl) (fun _ _ _ h => h) (Or.inl ⟨by rfl, ?hy3⟩) hHeld ?rest3
    case hy3 => intro w hSw; (try dsimp only at hSw); go_simp; try with_reducible rfl
    case rest3 =>
    simp only [Act.put, List.setIfInBounds_toArray, List.set_cons_zero, List.set_cons_succ, List.getElem_toArray, List.getElem_cons_zero, List.getElem_cons_succ]
    refine wpAnyX_take (i := 4) (v := ?v4) rfl (by kernel_rfl) (by kernel_rfl) (by kernel_rfl) (by kernel_rfl) (by kernel_rfl) (fun _ _ _ h => h) (Or.inl ⟨by rfl, ?hy4⟩) hHeld ?rest4
    case hy4 => intro w hSw; (try dsimp only at hSw); go_simp; try with_reducible rfl
    case rest4 =>
    simp only [Act.put, List.setIfInBounds_toArray, List.set_cons_zero, List.set_cons_succ, List.getElem_toArray, List.getElem_cons_zero, List.getElem_cons_succ]
    refine wpAnyX_take (i := 5) (v := ?v5) rfl (by kernel_rfl) (by kernel_rfl) (by kernel_rfl) (by kernel_rfl) (by kernel_rfl) (fun _ _ _ h => h) (Or.inl ⟨by rfl, ?hy5⟩) hHeld ?rest5
    case hy5 => intro w hSw; (try dsimp only at hSw); go_simp; try with_reducible rfl
    case rest5 =>
    simp only [Act.put, List.setIfInBounds_toArray, List.set_cons_zero, List.set_cons_succ, List.getElem_toArray, List.getElem_cons_zero, List.getElem_cons_succ]
    refine wpAnyX_take (i := 6) (v := ?v6) rfl (by kernel_rfl) (by kernel_rfl) (by kernel_rfl) (by kernel_rfl) (by kernel_rfl) (fun _ _ _ h => h) (Or.inl ⟨by rfl, ?hy6⟩) hHeld ?rest6
    case hy6 => intro w hSw; (try dsimp only at hSw); go_simp; try with_reducible rfl
    case rest6 =>
    simp only [Act.put, List.setIfInBounds_toArray, List.set_cons_zero, List.set_cons_succ, List.getElem_toArray, List.getElem_cons_zero, List.getElem_cons_succ]
    refine wpAnyX_take (i := 7) (v := ?v7) rfl (by kernel_rfl) (by kernel_rfl) (by kernel_rfl) (by kernel_rfl) (by kernel_rfl) (fun _ _ _ h => h) (Or.inl ⟨by rfl, ?hy7⟩) hHeld ?rest7
    case hy7 => intro w hSw; (try dsimp only at hSw); go_simp; try with_reducible rfl
    case rest7 =>
    simp only [Act.put, List.setIfInBounds_toArray, List.set_cons_zero, List.set_cons_succ, List.getElem_toArray, List.getElem_cons_zero, List.getElem_cons_succ]
    refine wpAnyX_take (i := 9) (v := ?v9) rfl (by kernel_rfl) (by kernel_rfl) (by kernel_rfl) (by kernel_rfl) (by kernel_rfl) (fun _ _ _ h => h) (Or.inl ⟨by rfl, ?hy9⟩) hHeld ?rest9
    case hy9 => intro w hSw; (try dsimp only at hSw); go_simp; try with_reducible rfl
    case rest9 =>
    simp only [Act.put, List.setIfInBounds_toArray, List.set_cons_zero, List.set_cons_succ, List.getElem_toArray, List.getElem_cons_zero, List.getElem_cons_succ]
    refine wpAnyX_two (i := 8) (j := 10) (by kernel_rfl) rfl rfl (fun K hK => ?_) (fun K hK => ?_)
    · go_simp
      refine (HE6.out _ (Below.refl _ _).drew).mono ?_
      rintro e w7 ⟨rfl, hb7⟩
      have hq7 : Below W6.heap.size W6 w7 := (Below.refl _ _).drew.trans hb7
      refine hK.out _ _ (KEEP.out _ hq7) ?_
      clear hK K
      refine wpAnyX_one (i := 10) (by kernel_rfl) rfl (fun K hK => ?_)
      go_simp
      refine hK.out _ _ (KEEP.out _ (hq7.alloc hq7.size _)) ?_
      clear hK K
      refine wpAnyX_one (i := 11) (by kernel_rfl) rfl (fun K hK => ?_)
      go_simp
      refine (HI6.out _ _ (hq7.alloc hq7.size _) hq7.size (row_one_new _ _)).mono ?_
      rintro e w8 ⟨ao', n', c', rfl, y1, y2, y3, y4, y5⟩
      have HZ : Hid (∃ L', SP F w p n L' (w8.setCell ⟨p, 1, none⟩ (.slice ao' n' c')) ∧ Okl n L' ∧ ∀ x, cov L' x ↔ cov L x ∨ inB b x) := ⟨L3, SP.chain HB3.out HK5.out HK6'.out hwA HS.out.lt y5, HD.out⟩
      have hHeld := And.intro y1 (And.intro y3 y4)
      clear y5
      refine hK.out _ _ hHeld ?_
      clear hK K
      refine wpAnyX_take (i := 12) (v := ?v12) rfl (by kernel_rfl) (by kernel_rfl) (by kernel_rfl) (by kernel_rfl) (by kernel_rfl) (fun _ _ _ h => h) (Or.inl ⟨by rfl, ?hy12⟩) hHeld ?rest12
      case hy12 => intro w hSw; (try dsimp only at hSw); go_simp; try with_reducible rfl
      case rest12 =>
      simp only [Act.put, List.setIfInBounds_toArray, List.set_cons_zero, List.set_cons_succ, List.getElem_toArray, List.getElem_cons_zero, List.getElem_cons_succ]
      refine wpAnyX_take (i := 13) (v := ?v13) rfl (by kernel_rfl) (by kernel_rfl) (by kernel_rfl) (by kernel_rfl) (by kernel_rfl) (fun _ _ _ h => h) (Or.inl ⟨by rfl, ?hy13⟩) hHeld ?rest13
      case hy13 => intro w hSw; (try dsimp only at hSw); go_simp; try with_reducible rfl
      case rest13 =>
      simp only [Act.put, List.setIfInBounds_toArray, List.set_cons_zero, List.set_cons_succ, List.getElem_toArray, List.getElem_cons_zero, List.getElem_cons_succ]
      refine wpAnyX_last (i := 14) (by kernel_rfl) rfl (by kernel_rfl) (fun K hK => ?_)
      go_simp
      refine hK.out _ _ ?_
      clear hK K hHeld
      refine wpAnyX_done (by kernel_rfl) ?_ _
      go_wp2
      go_ret
      exact ⟨fun _ => ⟨rfl, HZ.out⟩, fun h => absurd HALL.out h⟩
    · go_simp
      refine hK.out _ _ (KEEP.out _ ((Below.refl _ _).drew.alloc (Nat.le_refl _) _)) ?_
      clear hK K
      refine wpAnyX_one (i := 8) (by kernel_rfl) rfl (fun K hK => ?_)
      go_simp
      refine (HE6.out _ ((Below.refl _ _).drew.alloc (Nat.le_refl _) _)).mono ?_
      rintro e w7 ⟨rfl, hb7⟩
      have hq7 : Below W6.heap.size W6 w7 := ((Below.refl _ _).drew.alloc (Nat.le_refl _) _).trans (hb7.mono (by simp))
      refine hK.out _ _ (KEEP.out _ hq7) ?_
      clear hK K
      refine wpAnyX_one (i := 11) (by kernel_rfl) rfl (fun K hK => ?_)
      go_simp
      refine (HI6.out _ _ hq7 (Nat.le_refl _) ((row_one_new W6.drew _).below hb7)).mono ?_
      rintro e w8 ⟨ao', n', c', rfl, y1, y2, y3, y4, y5⟩
      have HZ : Hid (∃ L', SP F w p n L' (w8.setCell ⟨p, 1, none⟩ (.slice ao' n' c')) ∧ Okl n L' ∧ ∀ x, cov L' x ↔ cov L x ∨ inB b x) := ⟨L3, SP.chain HB3.out HK5.out HK6'.out hwA HS.out.lt y5, HD.out⟩
      have hHeld := And.intro y1 (And.intro y3 y4)
      clear y5
      refine hK.out _ _ hHeld ?_
      clear hK K
      refine wpAnyX_take (i := 12) (v := ?v12) rfl (by kernel_rfl) (by kernel_rfl) (by kernel_rfl) (by kernel_rfl) (by kernel_rfl) (fun _ _ _ h => h) (Or.inl ⟨by rfl, ?hy12⟩) hHeld ?rest12
      case hy12 => intro w hSw; (try dsimp only at hSw); go_simp; try with_reducible rfl
      case rest12 =>
      simp only [Act.put, List.setIfInBounds_toArray, List.set_cons_zero, List.set_cons_succ, List.getElem_toArray, List.getElem_cons_zero, List.getElem_cons_succ]
      refine wpAnyX_take (i := 13) (v := ?v13) rfl (by kernel_rfl) (by kernel_rfl) (by kernel_rfl) (by kernel_rfl) (by kernel_rfl) (fun _ _ _ h => h) (Or.inl ⟨by rfl, ?hy13⟩) hHeld ?rest13
      case hy13 => intro w hSw; (try dsimp only at hSw); go_simp; try with_reducible rfl
      case rest13 =>
      simp only [Act.put, List.setIfInBounds_toArray, List.set_cons_zero, List.set_cons_succ, List.getElem_toArray, List.getElem_cons_zero, List.getElem_cons_succ]
      refine wpAnyX_last (i := 14) (by kernel_rfl) rfl (by kernel_rfl) (fun K hK => ?_)
      go_simp
      refine hK.out _ _ ?_
      clear hK K hHeld
      refine wpAnyX_done (by kernel_rfl) ?_ _
      go_wp2
      go_ret
      exact ⟨fun _ => ⟨rfl, HZ.out⟩, fun h => absurd HALL.out h⟩
end Go.Proofs.YtbpihdeinkopfaaDoor
