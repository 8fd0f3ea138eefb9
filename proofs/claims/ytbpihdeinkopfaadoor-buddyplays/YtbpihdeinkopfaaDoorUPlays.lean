/- BuddyPlays: a store beside the document's. -/
import Derived.Test.YtbpihdeinkopfaaDoorUNew
import Derived.Test.YtbpihdeinkopfaaDoorUTakes
import Derived.Deep.CutRange
import Derived.Lib.ItoaWalk
namespace Go.Proofs.YtbpihdeinkopfaaDoor
open Go.RowKit

theorem cov_off {n : Nat} {L L' : List Bk} {M : List Bool} {b : Bk} (ho : Okl n L) (hn : M.length = n) (h : ∀ x, covB L x = M.getD x false) (hc : ∀ x, cov L' x ↔ cov L x ∧ ¬ inB b x) (x : Nat) : covB L' x = (setK M b.1 (2 ^ b.2) false).getD x false := by
  rw [setK_get, ← h x]
  by_cases hb : b.1 ≤ x ∧ x < b.1 + 2 ^ b.2
  · rw [if_pos hb, (covB_false _ _).2 fun e => ((hc x).1 e).2 hb]
    split <;> rfl
  · rw [if_neg hb]
    by_cases hx : x < M.length
    · rw [if_pos hx]
      exact covB_eq ((hc x).trans ⟨fun e => e.1, fun e => ⟨e, hb⟩⟩)
    · rw [if_neg hx, (covB_false _ _).2]
      intro e
      obtain ⟨c, hcm, _, h2⟩ := ((hc x).1 e).1
      have := ho.top c hcm
      omega
theorem cov_on {n : Nat} {L L' : List Bk} {M : List Bool} {b : Bk} (ho : Okl n L) (hn : M.length = n) (hbn : bend b ≤ n) (h : ∀ x, covB L x = M.getD x false) (hc : ∀ x, cov L' x ↔ cov L x ∨ inB b x) (x : Nat) : covB L' x = (setK M b.1 (2 ^ b.2) true).getD x false := by
  rw [setK_get, ← h x]
  by_cases hb : b.1 ≤ x ∧ x < b.1 + 2 ^ b.2
  · have : b.1 + 2 ^ b.2 ≤ n := hbn
    rw [if_pos hb, if_pos (by omega), (covB_iff _ _).2 ((hc x).2 (Or.inr hb))]
  · rw [if_neg hb]
    by_cases hx : x < M.length
    · rw [if_pos hx]
      exact covB_eq ((hc x).trans ⟨fun e => e.elim id fun e => absurd e hb, Or.inl⟩)
    · rw [if_neg hx, (covB_false _ _).2]
      intro e
      rcases (hc x).1 e with ⟨c, hcm, _, h2⟩ | e
      · have := ho.top c hcm
        omega
      · exact hb e
theorem allB_M {L : List Bk} {M : List Bool} (h : ∀ x, covB L x = M.getD x false) (b : Bk) (f : Bool) : allB L b f ↔ allM M b f := by
  unfold allB allM
  constructor
  · intro h1 x hx; rw [← h x]; exact h1 x hx
  · intro h1 x hx; rw [h x]; exact h1 x hx

/-- A store, the document's, and the deed at hand. -/
structure PD (w W : World) (p n hi : Nat) (vm : Value) (L : List Bk) (M : List Bool) (db : Nat) (dc : Array Value) (G : Nat → Prop) : Prop where
  ow : Ow w W p n L G
  row : Row rO hi W vm M
  inG : ∀ g, vm.ownBlock = some g → G g
  len : M.length = n
  hi : w.heap.size ≤ hi
  deed : Laid W db 37 dc
  dG : G db
  dn : vm.ownBlock ≠ some db
section
variable {w W W' : World} {p n hi : Nat} {vm : Value} {L : List Bk} {M : List Bool} {db : Nat} {dc : Array Value} {G : Nat → Prop}
theorem PD.below (h : PD w W p n hi vm L M db dc G) (hb : Below W.heap.size W W') : PD w W' p n hi vm L M db dc G := ⟨h.ow.below hb, h.row.below hb, h.inG, h.len, h.hi, h.deed.below hb, h.dG, h.dn⟩
theorem PD.op {L' : List Bk} (h : PD w W p n hi vm L M db dc G) (ho : Ow w W' p n L' G) (hs : Stay G W W') : PD w W' p n hi vm L' M db dc G :=
  ⟨ho, hs.row h.row h.inG, h.inG, h.len, h.hi, (hs.block db h.deed.lt fun e => e h.dG).trans h.deed, h.dG, h.dn⟩
theorem PD.mod {M' : List Bool} (h : PD w W p n hi vm L M db dc G) (hr : Row rO hi W' vm M') (hl : M'.length = n) (hk : Keeps W W' (fun b => vm.ownBlock = some b)) : PD w W' p n hi vm L M' db dc G :=
  ⟨h.ow.other hk fun c _ e => ⟨h.inG c e, Nat.le_trans h.hi (h.row.lt c e).1⟩, hr, h.inG, hl, h.hi, (hk.block db h.deed.lt h.dn).trans h.deed, h.dG, h.dn⟩
theorem PD.cells {a b c : Value} (h : PD w W p n hi vm L M db #[a, b, c] G) : W.cell? ⟨db, 0, none⟩ = some a ∧ W.cell? ⟨db, 1, none⟩ = some b ∧ W.cell? ⟨db, 2, none⟩ = some c := ⟨h.deed.cell 0, h.deed.cell 1, h.deed.cell 2⟩
end
/-- At the head of the loop. -/
def PQ (w W : World) (p n hi : Nat) (vm : Value) (L : List Bk) (M : List Bool) : Prop :=
  (∃ G, Ow w W p n L G ∧ Row rO hi W vm M ∧ (∀ g, vm.ownBlock = some g → G g)) ∧ M.length = n ∧ w.heap.size ≤ hi ∧ ∀ x, covB L x = M.getD x false
theorem PQ.lay {w W : World} {p n hi : Nat} {vm : Value} {L : List Bk} {M : List Bool} (h : PQ w W p n hi vm L M) (dc : Array Value) : ∃ G, PD w (W.alloc (.cells dc 37)) p n hi vm L M W.heap.size dc G := by
  obtain ⟨⟨G, h1, h2, h3⟩, h4, h5, h6⟩ := h
  have hb : Below W.heap.size W (W.alloc (.cells dc 37)) := (Below.refl _ _).alloc (Nat.le_refl _) _
  exact ⟨plus G W (W.alloc (.cells dc 37)), h1.more hb, h2.below hb, fun g hg => Or.inl (h3 g hg), h4, h5, Laid.new _ _ _, Or.inr ⟨Nat.le_refl _, by simp⟩, fun e => by have := (h2.lt _ e).2; omega⟩
theorem PD.back {w W : World} {p n hi : Nat} {vm : Value} {L : List Bk} {M : List Bool} {db : Nat} {dc : Array Value} {G : Nat → Prop} (h : PD w W p n hi vm L M db dc G) (hc : ∀ x, covB L x = M.getD x false) : PQ w W p n hi vm L M := ⟨⟨G, h.ow, h.row, h.inG⟩, h.len, h.hi, hc⟩
theorem PQ.same {w W : World} {p n hi : Nat} {vm : Value} {L : List Bk} {M : List Bool} (h : PQ w W p n hi vm L M) : Calls Tryd.prog 10 #[.pointer (some ⟨p, 0, none⟩), vm] W fun e w' => e = .returned (.bool true) ∧ PQ w w' p n hi vm L M := by
  obtain ⟨⟨G, h1, h2, h3⟩, h4, h5, h6⟩ := h
  have h1' := h1
  obtain ⟨F, v, k1, k2, k3, k4, k5, k6⟩ := h1
  refine (same_any k3 k4 h2 h4 h6).mono ?_
  rintro e w' ⟨rfl, hb⟩
  exact ⟨rfl, ⟨G, h1'.below hb, h2.below hb, h3⟩, h4, h5, h6⟩

set_option maxRecDepth 100000 in
set_option maxHeartbeats 32000000 in
theorem walk_buddyPlays (a0 : Int) (ao : Option Addr) (len cap : Nat) (D : Nat → UDd) (w : World) (hT : Tab w) (b0 : -9223372036854775808 ≤ a0 ∧ a0 ≤ 9223372036854775807) (hm : len ≤ maxLen) (hL : Lst UDd.cells UDd.ok 3 w ao len D) :
    Calls Tryd.prog 4 #[.int .i64 a0, .slice ao len cap] w fun e w' => e = .returned (.bool true) ∧ Below w.heap.size w w' := by
  have hU := up_any w hT
  have hP0 := fun w => pick_any a0 100 w b0.1 b0.2 (by decide) (by decide)
  have l0 := pickN_lt a0 100 (by decide)
  obtain ⟨n, hn⟩ : ∃ n, n = 1 + pickN a0 100 := ⟨_, rfl⟩
  have hnz : (1 : Int) + (pickN a0 100 : Int) = (n : Int) := by omega
  have hn1 : 1 ≤ n := by omega
  have hn2 : n ≤ 100 := by omega
  have hmz : len ≤ 9223372036854775807 := by unfold maxLen at hm; omega
  have HT : Hid (Tab w) := hT
  have HL : Hid (Lst UDd.cells UDd.ok 3 w ao len D) := hL
  have hR := fun w => refNew_any n w (by omega)
  clear hT hn hL hm
  go_enter Tryd.func4, Tryd.ntmps4
  go_wp2_with fail
  refine hU.mono ?_
  rintro e w1 ⟨rfl, hb1⟩
  have hN := owNew (G := fun _ => False) HT.out hb1 (fun _ h => h.elim) n hn1 (by omega)
  clear hU
  go_wp2_with (go_at_call 12; refine (hP0 _).mono ?_; rintro e w2 ⟨rfl, hw⟩; obtain rfl := hw.symm; clear hw)
  refine hN.mono ?_
  rintro e w2 ⟨p, rfl, O2, -⟩
  clear hN hb1
  go_wp2_with fail
  refine (hR _).mono ?_
  rintro e w3 ⟨vm, rfl, R3, hb3⟩
  obtain ⟨am, cm, rfl⟩ := R3.form
  rw [List.length_replicate] at R3 ⊢
  have HQ0 : Hid (PQ w w3 p n w2.heap.size (.slice am n cm) (blkL 0 n) (List.replicate n true)) := ⟨⟨plus (fun _ => False) w2 w3, O2.more hb3, R3, fun g hg => Or.inr (R3.lt g hg)⟩, by simp, O2.frame.size, new_model (by omega)⟩
  generalize w2.heap.size = hi at *
  clear hR O2 R3 hb3
  go_wp2_with fail
  go_loopw [9] (fun iv W => ∃ (k : Nat) (L : List Bk) (M : List Bool), k ≤ len ∧ k ≤ 80 ∧ iv = .int .i64 k ∧ Hid (PQ w W p n hi (.slice am n cm) L M)) (fun iv _ => len - (intOf iv).toNat)
  case atStart => exact ⟨0, _, _, Nat.zero_le _, by omega, rfl, HQ0⟩
  case round =>
    obtain ⟨k, L, M, hk, hk8, rfl, HI⟩ := hrel
    clear HQ0
    have hfr : Below w.heap.size w wr := by obtain ⟨⟨G, h1, _⟩, _⟩ := HI.out; exact h1.frame
    by_cases hlt : k < len ∧ k < 80
    · have hz1 : (k : Int) < (len : Int) := by omega
      have hz2 : (k : Int) < 80 := by omega
      obtain ⟨bb, off, rfl, hbw, hal⟩ := (HL.out.below hfr).at hlt.1
      obtain ⟨hok, hcl⟩ := hal k hlt.1
      have c0 := hcl 0 (by decide)
      have c1 := hcl 1 (by decide)
      have c2 := hcl 2 (by decide)
      simp [UDd.cells] at c0 c1 c2
      obtain ⟨⟨p1, p2⟩, hdf, r1, r2⟩ := hok
      have hPa := fun w => pick_any (D k).what 3 w p1 p2 (by decide) (by decide)
      generalize hda : D k = dd at *
      obtain ⟨dw, df, dor⟩ := dd
      simp only at *
      have l3 := pickN_lt dw 3 (by decide)
      obtain ⟨G, P0⟩ := HI.out.lay #[.int .i64 dw, .int .i64 df, .int .i64 dor]
      have HCV : Hid (∀ x, covB L x = M.getD x false) := HI.out.2.2.2
      have HP : Hid (PD w (wr.alloc (.cells #[.int .i64 dw, .int .i64 df, .int .i64 dor] 37)) p n hi (.slice am n cm) L M wr.heap.size #[.int .i64 dw, .int .i64 df, .int .i64 dor] G) := P0
      have hBl := fun w => refBlock_any am n cm df dor w (by omega)
      clear hal hcl hda HI P0 hfr
      obtain ⟨mi, hmi⟩ : ∃ mi : Int, (pickN dw 3 : Int) = mi := ⟨_, rfl⟩
      have hmc : mi = 0 ∨ mi = 1 ∨ mi = 2 := by omega
      rw [hmi] at hPa
      clear hmi l3
      have e5 := neq_err 5
      have e1 := neq_err 1
      have e7 := neq_err 7
      go_upto_region 11 with fail
      go_name_world W0 hW0
      have P0 : PD w W0 p n hi (.slice am n cm) L M wr.heap.size #[.int .i64 dw, .int .i64 df, .int .i64 dor] G := by rw [← hW0]; exact HP.out
      clear hW0 HP c0 c1 c2
      generalize wr.heap.size = db at *
      obtain ⟨d0, d1, d2⟩ := P0.cells
      have HP0 : Hid (PD w W0 p n hi (.slice am n cm) L M db #[.int .i64 dw, .int .i64 df, .int .i64 dor] G) := P0
      clear P0
      obtain ⟨ob, hob⟩ : ∃ ob : Bool, ob = decide (0 ≤ dor ∧ dor ≤ 5) := ⟨_, rfl⟩
      have HOB : Hid (ob = decide (0 ≤ dor ∧ dor ≤ 5)) := hob
      clear hob
      go_cut [11] from 37 to 195 (fun s11 W => s11 = .bool ob ∧ W0 = W)
      case first =>
        clear HP0 hPa hBl
        by_cases h1 : 0 ≤ dor
        · by_cases h2 : dor ≤ 5
          · go_wp2_with fail
            go_meet
            exact ⟨by rw [HOB.out, decide_eq_true (by omega)], rfl⟩
          · go_wp2_with fail
            go_meet
            exact ⟨by rw [HOB.out, decide_eq_false (by omega)], rfl⟩
        · go_wp2_with fail
          go_meet
          exact ⟨by rw [HOB.out, decide_eq_false (by omega)], rfl⟩
      case rest =>
      obtain ⟨rfl, rfl⟩ := hcut
      apply_assumption
      go_wp2_with fail
      refine (hBl _).mono ?_
      rintro e w5 ⟨rfl, hw⟩
      obtain rfl := hw.symm
      clear hw
      go_wp2_with fail
      refine (hPa _).mono ?_
      rintro e w5 ⟨rfl, hw⟩
      obtain rfl := hw.symm
      clear hw hPa hBl
      rcases hmc with rfl | rfl | rfl
      · by_cases hord : 0 ≤ dor ∧ dor ≤ 5
        · have hob : ob = true := by rw [HOB.out, decide_eq_true hord]
          subst hob
          clear HOB
          obtain ⟨o, rfl⟩ : ∃ o : Nat, dor = o := ⟨dor.toNat, by omega⟩
          have h5 : o ≤ 5 := by omega
          have hK := HP0.out.ow.take HT.out o h5
          have hRT := fun w' (h : Row rO hi w' (.slice am n cm) M) => refTake_any h HP0.out.ow.ok HP0.out.len HCV.out o h5 (fun m hl => (lst_bend HP0.out.ow.ok hl).1)
          unfold TakeO at hK
          unfold RTakeP at hRT
          cases hl : lst o L L.length with
          | none =>
            rw [hl] at hK hRT
            simp only at hK hRT
            clear hl hord
            go_wp2_with fail
            refine hK.mono ?_
            rintro e w6 ⟨rfl, O6, Y6⟩
            have P6 := HP0.out.op O6 Y6
            have hR6 := hRT w6 P6.row
            obtain ⟨d0, d1, d2⟩ := P6.cells
            have HP6 : Hid (PD w w6 p n hi (.slice am n cm) L M db #[.int .i64 dw, .int .i64 df, .int .i64 o] G) := P6
            clear hK hRT P6 O6 Y6 HP0
            go_wp2_with fail
            refine hR6.mono ?_
            rintro e w7 ⟨rfl, -, hb7⟩
            have HQ : Hid (PQ w w7 p n hi (.slice am n cm) L M) := (HP6.out.below hb7).back HCV.out
            clear hR6 hb7 HP6 d0 d1 d2
            have hSm := HQ.out.same
            go_wp2_with fail
            refine hSm.mono ?_
            rintro e w9 ⟨rfl, Q9⟩
            have HQ9 : Hid (PQ w w9 p n hi (.slice am n cm) _ _) := Q9
            clear hSm Q9 HQ
            go_wp2
            go_roundw
            case rel => exact ⟨k + 1, _, _, by omega, by omega, by go_num, HQ9⟩
            case measure => simp only [intOf]; omega

          | some m =>
            rw [hl] at hK hRT
            simp only at hK hRT
            have hbe := (lst_bend HP0.out.ow.ok hl).1
            obtain ⟨fst, hfst⟩ : ∃ fst, (L.getD m (0, 0)).1 = fst := ⟨_, rfl⟩
            rw [hfst] at hK hRT hbe
            clear hl hord hfst
            go_wp2_with fail
            refine hK.mono ?_
            rintro e w6 ⟨rfl, L6, O6, Y6, cv6⟩
            have P6 := HP0.out.op O6 Y6
            have hR6 := hRT w6 P6.row
            obtain ⟨d0, d1, d2⟩ := P6.cells
            have HC6 : Hid (∀ x, covB L6 x = (setK M fst (2 ^ o) false).getD x false) := cov_off (b := (fst, o)) HP0.out.ow.ok HP0.out.len HCV.out cv6
            have HP6 : Hid (PD w w6 p n hi (.slice am n cm) L6 M db #[.int .i64 dw, .int .i64 df, .int .i64 o] G) := P6
            clear hK hRT P6 O6 Y6 HP0 cv6 hbe
            go_wp2_with fail
            refine hR6.mono ?_
            rintro e w7 ⟨rfl, hr7, hk7⟩
            have HQ : Hid (PQ w w7 p n hi (.slice am n cm) L6 (setK M fst (2 ^ o) false)) := (HP6.out.mod hr7 ((setK_len _ _ _ _).trans HP6.out.len) hk7).back HC6.out
            have hfz : ¬ ((fst : Int) < 0) := by omega
            have hfz2 : (0 : Int) ≤ (fst : Int) := by omega
            clear hR6 hr7 hk7 HP6 HC6 d0 d1 d2
            have hSm := HQ.out.same
            go_wp2_with fail
            refine hSm.mono ?_
            rintro e w9 ⟨rfl, Q9⟩
            have HQ9 : Hid (PQ w w9 p n hi (.slice am n cm) _ _) := Q9
            clear hSm Q9 HQ
            go_wp2
            go_roundw
            case rel => exact ⟨k + 1, _, _, by omega, by omega, by go_num, HQ9⟩
            case measure => simp only [intOf]; omega

        · have hob : ob = false := by rw [HOB.out, decide_eq_false hord]
          subst hob
          clear HOB
          have hK := fun w => take_no (w := w) (p := p) dor hord
          have HQ : Hid (PQ w W0 p n hi (.slice am n cm) L M) := HP0.out.back HCV.out
          clear hord HP0
          go_wp2_with (go_at_call 14; refine (hK _).mono ?_; rintro e w5 ⟨rfl, hw⟩; obtain rfl := hw.symm; clear hw)
          clear hK d0 d1 d2
          have hSm := HQ.out.same
          refine hSm.mono ?_
          rintro e w9 ⟨rfl, Q9⟩
          have HQ9 : Hid (PQ w w9 p n hi (.slice am n cm) _ _) := Q9
          clear hSm Q9 HQ
          go_wp2
          go_roundw
          case rel => exact ⟨k + 1, _, _, by omega, by omega, by go_num, HQ9⟩
          case measure => simp only [intOf]; omega
      · cases hh : hasB n df dor with
        | false =>
          have hK := HP0.out.ow.takeAtNo df dor hdf hh
          clear hh
          go_wp2_with fail
          refine hK.mono ?_
          rintro e w6 ⟨rfl, O6, Y6⟩
          have HQ : Hid (PQ w w6 p n hi (.slice am n cm) L M) := (HP0.out.op O6 Y6).back HCV.out
          clear hK O6 Y6 HP0 d0 d1 d2
          have hSm := HQ.out.same
          go_wp2_with fail
          refine hSm.mono ?_
          rintro e w9 ⟨rfl, Q9⟩
          have HQ9 : Hid (PQ w w9 p n hi (.slice am n cm) _ _) := Q9
          clear hSm Q9 HQ
          go_wp2
          go_roundw
          case rel => exact ⟨k + 1, _, _, by omega, by omega, by go_num, HQ9⟩
          case measure => simp only [intOf]; omega

        | true =>
          obtain ⟨f2, o, rfl, rfl, hab, hbe⟩ := hasB_nat hh
          have hK := HP0.out.ow.takeAt HT.out (f2, o) hab hbe
          clear hh
          have HAB : Hid (alB (f2, o) ∧ bend (f2, o) ≤ n) := ⟨hab, hbe⟩
          clear hab hbe
          by_cases hall : allB L (f2, o) true
          · have HALL : Hid (allB L (f2, o) true) := hall
            have hAl := fun w' (h : Row rO hi w' (.slice am n cm) M) => refAll_any h (by rw [HP0.out.len]; omega) (f2, o) HAB.out.1.1 (by rw [HP0.out.len]; exact HAB.out.2) true true ⟨fun _ => (allB_M HCV.out _ _).1 HALL.out, fun _ => rfl⟩
            have hSt := fun w' (h : Row rO hi w' (.slice am n cm) M) => refSet_any h (by rw [HP0.out.len]; omega) (f2, o) HAB.out.1.1 (by rw [HP0.out.len]; exact HAB.out.2) false
            clear hall
            go_wp2_with fail
            refine hK.mono ?_
            rintro e w6 ⟨h6, -⟩
            obtain ⟨rfl, L6, O6, Y6, cv6⟩ := h6 HALL.out
            have P6 := HP0.out.op O6 Y6
            have hA6 := hAl w6 P6.row
            have hS6 := hSt w6 P6.row
            obtain ⟨d0, d1, d2⟩ := P6.cells
            have HC6 : Hid (∀ x, covB L6 x = (setK M f2 (2 ^ o) false).getD x false) := cov_off (b := (f2, o)) HP0.out.ow.ok HP0.out.len HCV.out cv6
            have HP6 : Hid (PD w w6 p n hi (.slice am n cm) L6 M db #[.int .i64 dw, .int .i64 f2, .int .i64 o] G) := P6
            clear hK h6 hAl hSt P6 O6 Y6 HP0 cv6
            go_wp2_with (go_at_call 17; refine hA6.mono ?_; rintro e w5 ⟨rfl, hw⟩; obtain rfl := hw.symm; clear hw)
            refine hS6.mono ?_
            rintro e w7 ⟨rfl, hr7, hk7⟩
            have HQ : Hid (PQ w w7 p n hi (.slice am n cm) L6 (setK M f2 (2 ^ o) false)) := (HP6.out.mod hr7 ((setK_len _ _ _ _).trans HP6.out.len) hk7).back HC6.out
            clear hA6 hS6 hr7 hk7 HP6 HC6 d0 d1 d2
            have hSm := HQ.out.same
            go_wp2_with fail
            refine hSm.mono ?_
            rintro e w9 ⟨rfl, Q9⟩
            have HQ9 : Hid (PQ w w9 p n hi (.slice am n cm) _ _) := Q9
            clear hSm Q9 HQ
            go_wp2
            go_roundw
            case rel => exact ⟨k + 1, _, _, by omega, by omega, by go_num, HQ9⟩
            case measure => simp only [intOf]; omega

          · have HALL : Hid (¬ allB L (f2, o) true) := hall
            have hAl := fun w' (h : Row rO hi w' (.slice am n cm) M) => refAll_any h (by rw [HP0.out.len]; omega) (f2, o) HAB.out.1.1 (by rw [HP0.out.len]; exact HAB.out.2) true false ⟨fun h => (by cases h), fun h => absurd ((allB_M HCV.out _ _).2 h) HALL.out⟩
            clear hall
            go_wp2_with fail
            refine hK.mono ?_
            rintro e w6 ⟨-, h6⟩
            obtain ⟨rfl, O6, Y6⟩ := h6 HALL.out
            have P6 := HP0.out.op O6 Y6
            have hA6 := hAl w6 P6.row
            obtain ⟨d0, d1, d2⟩ := P6.cells
            have HQ : Hid (PQ w w6 p n hi (.slice am n cm) L M) := P6.back HCV.out
            clear hK h6 hAl P6 O6 Y6 HP0
            go_wp2_with (go_at_call 17; refine hA6.mono ?_; rintro e w5 ⟨rfl, hw⟩; obtain rfl := hw.symm; clear hw)
            clear hA6 d0 d1 d2
            have hSm := HQ.out.same
            refine hSm.mono ?_
            rintro e w9 ⟨rfl, Q9⟩
            have HQ9 : Hid (PQ w w9 p n hi (.slice am n cm) _ _) := Q9
            clear hSm Q9 HQ
            go_wp2
            go_roundw
            case rel => exact ⟨k + 1, _, _, by omega, by omega, by go_num, HQ9⟩
            case measure => simp only [intOf]; omega
      · cases hh : hasB n df dor with
        | false =>
          have hK := HP0.out.ow.giveNo df dor hdf hh
          clear hh
          go_wp2_with fail
          refine hK.mono ?_
          rintro e w6 ⟨rfl, O6, Y6⟩
          have HQ : Hid (PQ w w6 p n hi (.slice am n cm) L M) := (HP0.out.op O6 Y6).back HCV.out
          clear hK O6 Y6 HP0 d0 d1 d2
          have hSm := HQ.out.same
          go_wp2_with fail
          refine hSm.mono ?_
          rintro e w9 ⟨rfl, Q9⟩
          have HQ9 : Hid (PQ w w9 p n hi (.slice am n cm) _ _) := Q9
          clear hSm Q9 HQ
          go_wp2
          go_roundw
          case rel => exact ⟨k + 1, _, _, by omega, by omega, by go_num, HQ9⟩
          case measure => simp only [intOf]; omega

        | true =>
          obtain ⟨f2, o, rfl, rfl, hab, hbe⟩ := hasB_nat hh
          have hK := HP0.out.ow.give (f2, o) hab hbe
          clear hh
          have HAB : Hid (alB (f2, o) ∧ bend (f2, o) ≤ n) := ⟨hab, hbe⟩
          clear hab hbe
          by_cases hall : allB L (f2, o) false
          · have HALL : Hid (allB L (f2, o) false) := hall
            have hAl := fun w' (h : Row rO hi w' (.slice am n cm) M) => refAll_any h (by rw [HP0.out.len]; omega) (f2, o) HAB.out.1.1 (by rw [HP0.out.len]; exact HAB.out.2) false true ⟨fun _ => (allB_M HCV.out _ _).1 HALL.out, fun _ => rfl⟩
            have hSt := fun w' (h : Row rO hi w' (.slice am n cm) M) => refSet_any h (by rw [HP0.out.len]; omega) (f2, o) HAB.out.1.1 (by rw [HP0.out.len]; exact HAB.out.2) true
            clear hall
            go_wp2_with fail
            refine hK.mono ?_
            rintro e w6 ⟨h6, -⟩
            obtain ⟨rfl, L6, O6, Y6, cv6⟩ := h6 HALL.out
            have P6 := HP0.out.op O6 Y6
            have hA6 := hAl w6 P6.row
            have hS6 := hSt w6 P6.row
            obtain ⟨d0, d1, d2⟩ := P6.cells
            have HC6 : Hid (∀ x, covB L6 x = (setK M f2 (2 ^ o) true).getD x false) := cov_on (b := (f2, o)) HP0.out.ow.ok HP0.out.len HAB.out.2 HCV.out cv6
            have HP6 : Hid (PD w w6 p n hi (.slice am n cm) L6 M db #[.int .i64 dw, .int .i64 f2, .int .i64 o] G) := P6
            clear hK h6 hAl hSt P6 O6 Y6 HP0 cv6
            go_wp2_with (go_at_call 17; refine hA6.mono ?_; rintro e w5 ⟨rfl, hw⟩; obtain rfl := hw.symm; clear hw)
            refine hS6.mono ?_
            rintro e w7 ⟨rfl, hr7, hk7⟩
            have HQ : Hid (PQ w w7 p n hi (.slice am n cm) L6 (setK M f2 (2 ^ o) true)) := (HP6.out.mod hr7 ((setK_len _ _ _ _).trans HP6.out.len) hk7).back HC6.out
            clear hA6 hS6 hr7 hk7 HP6 HC6 d0 d1 d2
            have hSm := HQ.out.same
            go_wp2_with fail
            refine hSm.mono ?_
            rintro e w9 ⟨rfl, Q9⟩
            have HQ9 : Hid (PQ w w9 p n hi (.slice am n cm) _ _) := Q9
            clear hSm Q9 HQ
            go_wp2
            go_roundw
            case rel => exact ⟨k + 1, _, _, by omega, by omega, by go_num, HQ9⟩
            case measure => simp only [intOf]; omega

          · have HALL : Hid (¬ allB L (f2, o) false) := hall
            have hAl := fun w' (h : Row rO hi w' (.slice am n cm) M) => refAll_any h (by rw [HP0.out.len]; omega) (f2, o) HAB.out.1.1 (by rw [HP0.out.len]; exact HAB.out.2) false false ⟨fun h => (by cases h), fun h => absurd ((allB_M HCV.out _ _).2 h) HALL.out⟩
            clear hall
            go_wp2_with fail
            refine hK.mono ?_
            rintro e w6 ⟨-, h6⟩
            obtain ⟨rfl, O6, Y6⟩ := h6 HALL.out
            have P6 := HP0.out.op O6 Y6
            have hA6 := hAl w6 P6.row
            obtain ⟨d0, d1, d2⟩ := P6.cells
            have HQ : Hid (PQ w w6 p n hi (.slice am n cm) L M) := P6.back HCV.out
            clear hK h6 hAl P6 O6 Y6 HP0
            go_wp2_with (go_at_call 17; refine hA6.mono ?_; rintro e w5 ⟨rfl, hw⟩; obtain rfl := hw.symm; clear hw)
            clear hA6 d0 d1 d2
            have hSm := HQ.out.same
            refine hSm.mono ?_
            rintro e w9 ⟨rfl, Q9⟩
            have HQ9 : Hid (PQ w w9 p n hi (.slice am n cm) _ _) := Q9
            clear hSm Q9 HQ
            go_wp2
            go_roundw
            case rel => exact ⟨k + 1, _, _, by omega, by omega, by go_num, HQ9⟩
            case measure => simp only [intOf]; omega
    · have hx : (¬ (k : Int) < (len : Int)) ∨ ((k : Int) < (len : Int) ∧ ¬ (k : Int) < 80) := by omega
      clear hlt hk hk8 HL HI
      have HF : Hid (Below w.heap.size w wr) := hfr
      clear hfr
      rcases hx with h1 | ⟨h1, h2⟩
      all_goals
        go_wp2
        go_ret
        exact ⟨rfl, HF.out⟩
end Go.Proofs.YtbpihdeinkopfaaDoor
