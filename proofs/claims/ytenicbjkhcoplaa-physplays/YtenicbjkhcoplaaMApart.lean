/- PhysApart: the walk. -/
import Derived.Test.YtenicbjkhcoplaaMUp
import Derived.Test.YtenicbjkhcoplaaMDeed
import Derived.Deep.RegionHeld3
namespace Go.Proofs.Ytenicbjkhcoplaa
open Go.RowKit

/-- A struct of cells cs that lies at block b. -/
def Laid (w : World) (b : Nat) (t : TypeId) (cs : Array Value) : Prop := w.heap[b]? = some (.cells cs t (0, 0))
theorem Laid.lt {w : World} {b : Nat} {t : TypeId} {cs : Array Value} (h : Laid w b t cs) : b < w.heap.size := (Array.getElem?_eq_some_iff.1 h).1
theorem Laid.below {w w' : World} {b : Nat} {t : TypeId} {cs : Array Value} (h : Laid w b t cs) (hb : Below w.heap.size w w') : Laid w' b t cs := (hb.block b h.lt).trans h
theorem Laid.kept {w w' : World} {b : Nat} {t : TypeId} {cs : Array Value} {row : Option Nat} (h : Laid w b t cs) (hg : w.grownBy w' row) (hr : some b ≠ row) : Laid w' b t cs := (hg.block b h.lt hr).trans h
theorem Laid.cell {w : World} {b : Nat} {t : TypeId} {cs : Array Value} (h : Laid w b t cs) (j : Nat) : w.cell? ⟨b, j, none⟩ = cs[j]? := cell_of_row w b j cs t (0, 0) h
theorem Laid.new (w : World) (t : TypeId) (cs : Array Value) : Laid (w.alloc (.cells cs t)) w.heap.size t cs := heap_alloc_new w _

set_option maxRecDepth 100000 in
set_option maxHeartbeats 4000000 in
theorem walk_physApart (ao : Option Addr) (len cap : Nat) (D : Nat → Deed) (d : Deed) (w : World) (_ : len ≤ maxLen) (hL : Lst Deed.cells Deed.ok 4 w ao len D) (hd : d.ok) :
    Calls Try.prog 6 #[.slice ao len cap, .agg d.cells.toArray] w fun e w' => e = .returned (.bool true) ∧ Below w.heap.size w w' := by
  obtain ⟨what, da, db, dv⟩ := d
  simp only [Deed.cells]
  obtain ⟨⟨w1, w2⟩, ⟨a1, a2⟩, ⟨b1, b2⟩, v1⟩ := hd
  simp only at w1 w2 a1 a2 b1 b2 v1
  go_enter Try.func6, Try.ntmps6
  go_wp2_with fail
  refine (up_any _).mono ?_
  rintro e W1 ⟨rfl, hb⟩
  have X1 : Laid W1 w.heap.size 40 #[.int .i64 what, .int .i64 da, .int .i64 db, .int .u64 dv] := (Laid.new w _ _).below hb
  have L1 : Below w.heap.size w W1 := ((Below.refl _ _).alloc (Nat.le_refl _) _).trans (hb.mono (by simp))
  clear hb
  go_wp2_with fail
  refine (new_yes 4 _ (by omega) (by omega)).mono ?_
  rintro e W2 ⟨bm, sm, rfl, M2, hb⟩
  have X2 := X1.below hb
  have L2 := below_call' L1 hb
  have ne : w.heap.size ≠ sm := by have := X1.lt; have := M2.hs; omega
  replace M2 := M2.base L1.size
  clear hb L1 X1
  go_wp2
  go_loopw [8] (fun i W => ∃ (k : Nat) (f : Nat → Nat), k ≤ len ∧ i = .int .i64 k ∧ Mem w.heap.size W bm sm 4 f ∧ Below w.heap.size w W ∧ Laid W w.heap.size 40 #[.int .i64 what, .int .i64 da, .int .i64 db, .int .u64 dv]) (fun i _ => len - (intOf i).toNat)
  case atStart => exact ⟨0, _, Nat.zero_le _, rfl, M2, L2, X2⟩
  case round =>
    obtain ⟨k, f, hk, rfl, M, L, X⟩ := hrel
    clear M2 L2 X2
    by_cases hlt' : k < len ∧ k < 30
    · obtain ⟨hlt, h30⟩ := hlt'
      · obtain ⟨b, off, rfl, hbw, hall⟩ := hL.at hlt
        obtain ⟨ok, hc⟩ := hall k hlt
        obtain ⟨_, ⟨ok1, ok2⟩, ⟨ok3, ok4⟩, _⟩ := ok
        have hold := fun o => L.cell (p := ⟨b, o, none⟩) hbw
        have c1 := (hold _).trans (hc 1 (by omega))
        have c2 := (hold _).trans (hc 2 (by omega))
        have c3 := (hold _).trans (hc 3 (by omega))
        have hbW := Nat.lt_of_lt_of_le hbw L.size
        have hbs : some b ≠ some sm := fun h => by cases h; have := M.hs; omega
        simp only [Deed.cells, List.getElem?_cons_succ, List.getElem?_cons_zero] at c1 c2 c3
        clear hc hall hold
        generalize (D k).a = x1 at *
        generalize (D k).b = x2 at *
        generalize (D k).v = x3 at *
        have q1 := pk_lt x1 4 (by omega)
        have q2 := pk_lt x2 8 (by omega)
        have Q1 : pk x1 4 < 4 := by omega
        have Q2 : pk x2 8 < 8 := by omega
        clear q1 q2
        go_wp2
        go_region_held3 (fun w' => w'.cell? ⟨b, off + k * 4 + 1, none⟩ = some (.int .i64 x1) ∧ w'.cell? ⟨b, off + k * 4 + 2, none⟩ = some (.int .i64 x2) ∧ w'.cell? ⟨b, off + k * 4 + 3, none⟩ = some (.int .u64 x3)) (go_keep) (first | (go_at_call 11; refine (pick_k _ _ _ (by assumption) (by assumption) (by decide) (by decide)).mono ?_; rintro e w2 ⟨rfl, rfl⟩) | (go_at_call 13; refine (store_mem M.drew _ _ _ Q1 Q2).mono ?_; rintro e w2 ⟨rfl, M2, G⟩; have hc2 : ∀ o, w2.cell? ⟨b, o, none⟩ = wr.cell? ⟨b, o, none⟩ := fun o => World.cell?_of_block (G.block b hbW hbs)))
        go_wp2
        go_roundw
        case rel => exact ⟨k + 1, _, by omega, by go_num, M2, below_row L.drew L.size G M.hs, (show Laid wr.drew _ _ _ from X).kept G (fun h => ne (by cases h; rfl))⟩
        case measure => simp [intOf]; omega
    · have q1 := pk_lt da 4 (by omega)
      have q2 := pk_lt db 8 (by omega)
      have q3 := pk_lt what 3 (by omega)
      obtain ⟨a, ha⟩ : ∃ a, a = pk da 4 := ⟨_, rfl⟩
      obtain ⟨b, hb⟩ : ∃ b, b = pk db 8 := ⟨_, rfl⟩
      obtain ⟨c, hc⟩ : ∃ c, c = pk what 3 := ⟨_, rfl⟩
      have pa := fun w => pick_k da 4 w a1 a2 (by omega) (by omega)
      have pb := fun w => pick_k db 8 w b1 b2 (by omega) (by omega)
      have pc := fun w => pick_k what 3 w w1 w2 (by omega) (by omega)
      rw [← ha] at pa q1
      rw [← hb] at pb q2
      rw [← hc] at pc q3
      clear ha hb hc
      have hx : (k < len ∧ ¬ k < 30) ∨ ¬ k < len := by omega
      clear hlt'
      have k1 := X.cell 0
      have k2 := X.cell 1
      have k3 := X.cell 2
      have k4 := X.cell 3
      clear hL
      rcases hx with ⟨hx1, hx2⟩ | hx1
      all_goals
        go_wp2_with fail
        refine (clone_any M (by omega) (by omega)).mono ?_
        rintro e W3 ⟨bc, sc, rfl, C3, hb⟩
        have M3 := M.below hb
        have X3 := X.below hb
        have hl := M.lt
        have n1 : some bc ≠ some sm := fun h => by cases h; have := C3.hb; omega
        have n2 : some sc ≠ some sm := fun h => by cases h; have := C3.hs; omega
        replace C3 := C3.base L.size
        have L3 := below_call' L hb
        clear M X L hb hl k1 k2 k3 k4
        have k1 := X3.cell 0
        have k2 := X3.cell 1
        have k3 := X3.cell 2
        have k4 := X3.cell 3
        simp only [List.getElem?_toArray, List.getElem?_cons_succ, List.getElem?_cons_zero] at k1 k2 k3 k4
        go_wp2_with fail
        refine (pa _).mono ?_
        rintro e w' ⟨rfl, rfl⟩
        go_wp2_with fail
        refine (pb _).mono ?_
        rintro e w' ⟨rfl, rfl⟩
        go_wp2_with fail
        refine (pc _).mono ?_
        rintro e w' ⟨rfl, rfl⟩
        clear pa pb pc
        have hcs : c = 0 ∨ c = 1 ∨ c = 2 := by omega
        rcases hcs with rfl | rfl | rfl
        · go_wp2_with fail
          refine (store_mem M3 a b dv (by omega) (by omega)).mono ?_
          rintro e W4 ⟨rfl, M4, G⟩
          have C4 := C3.kept G n1 n2
          have L4 := below_row L3 L3.size G M3.hs
          have HS : Hid (∀ k j, k < 4 → j < 8 → ¬ (k = a ∧ j = b) → upd f (a * 8 + b) dv (k * 8 + j) = f (k * 8 + j)) := fun k j hk hj h => by unfold upd; rw [if_neg (by omega)]
          generalize upd f (a * 8 + b) dv = g at *
          clear M3 C3 L3 G X3 k1 k2 k3 k4
          go_wp2
          go_loop [13] (fun i => ∃ k : Nat, k ≤ 4 ∧ i = .int .i64 k) (fun i => 4 - (intOf i).toNat)
          case atStart => exact ⟨0, by omega, rfl⟩
          case round =>
            obtain ⟨k, hk, rfl⟩ := hrel
            by_cases hlt : k < 4
            · go_wp2
              go_loop [14] (fun i => ∃ j : Nat, j ≤ 8 ∧ i = .int .i64 j) (fun i => 8 - (intOf i).toNat)
              case atStart => exact ⟨0, by omega, rfl⟩
              case round =>
                obtain ⟨j, hj, rfl⟩ := hrel
                by_cases hjt : j < 8
                · by_cases hs : k = a ∧ j = b
                  · obtain ⟨rfl, rfl⟩ := hs
                    go_wp2
                    go_round
                    case rel => exact ⟨j + 1, by omega, by go_num⟩
                    case measure => simp [intOf]; omega
                  · have hm := load_yes M4 k j hlt hjt
                    rw [HS.out k j hlt hjt hs] at hm
                    have hc := load_yes C4 k j hlt hjt
                    have ht : (k ≠ a) ∨ (k = a ∧ j ≠ b) := by omega
                    rcases ht with ht | ⟨rfl, ht⟩
                    case' inl => have t : ((k : Int) == (a : Int)) = false := by simp; omega
                    case' inr => have t : ((j : Int) == (b : Int)) = false := by simp; omega
                    all_goals
                      clear ht
                      go_wp2_with fail
                      refine hm.mono ?_
                      rintro e w' ⟨rfl, rfl⟩
                      go_wp2_with fail
                      refine hc.mono ?_
                      rintro e w' ⟨rfl, rfl⟩
                      clear hm hc
                      go_wp2
                      go_round
                      case rel => exact ⟨j + 1, by omega, by go_num⟩
                      case measure => simp [intOf]; omega
                · go_wp2
                  go_round
                  case rel => exact ⟨k + 1, by omega, by go_num⟩
                  case measure => simp [intOf]; omega
            · go_wp2
              go_ret
              exact ⟨rfl, L4⟩
        · go_wp2_with fail
          refine (clear_yes M3 a (by omega)).mono ?_
          rintro e W4 ⟨rfl, M4, G⟩
          have C4 := C3.kept G n1 n2
          have L4 := below_row L3 L3.size G M3.hs
          have HS : Hid (∀ k j, k < 4 → j < 8 → ¬ (k = a) → (fun j => if j / 8 = a then 0 else f j) (k * 8 + j) = f (k * 8 + j)) := fun k j hk hj h => by show (if (k * 8 + j) / 8 = a then 0 else f (k * 8 + j)) = _; rw [if_neg (by omega)]
          generalize (fun j => if j / 8 = a then 0 else f j) = g at *
          clear M3 C3 L3 G X3 k1 k2 k3 k4
          go_wp2
          go_loop [13] (fun i => ∃ k : Nat, k ≤ 4 ∧ i = .int .i64 k) (fun i => 4 - (intOf i).toNat)
          case atStart => exact ⟨0, by omega, rfl⟩
          case round =>
            obtain ⟨k, hk, rfl⟩ := hrel
            by_cases hlt : k < 4
            · go_wp2
              go_loop [14] (fun i => ∃ j : Nat, j ≤ 8 ∧ i = .int .i64 j) (fun i => 8 - (intOf i).toNat)
              case atStart => exact ⟨0, by omega, rfl⟩
              case round =>
                obtain ⟨j, hj, rfl⟩ := hrel
                by_cases hjt : j < 8
                · by_cases hs : k = a
                  · obtain rfl := hs
                    go_wp2
                    go_round
                    case rel => exact ⟨j + 1, by omega, by go_num⟩
                    case measure => simp [intOf]; omega
                  · have hm := load_yes M4 k j hlt hjt
                    rw [HS.out k j hlt hjt hs] at hm
                    have hc := load_yes C4 k j hlt hjt
                    have t : ((k : Int) == (a : Int)) = false := by simp; omega
                    all_goals
                      skip
                      go_wp2_with fail
                      refine hm.mono ?_
                      rintro e w' ⟨rfl, rfl⟩
                      go_wp2_with fail
                      refine hc.mono ?_
                      rintro e w' ⟨rfl, rfl⟩
                      clear hm hc
                      go_wp2
                      go_round
                      case rel => exact ⟨j + 1, by omega, by go_num⟩
                      case measure => simp [intOf]; omega
                · go_wp2
                  go_round
                  case rel => exact ⟨k + 1, by omega, by go_num⟩
                  case measure => simp [intOf]; omega
            · go_wp2
              go_ret
              exact ⟨rfl, L4⟩
        · obtain ⟨b4, hb4⟩ : ∃ b4 : Nat, ((b : Int) % 4) = b4 := ⟨b % 4, by omega⟩
          have hb4' : b4 < 4 := by omega
          go_wp2_with fail
          refine (copy_yes M3 a b4 (by omega) hb4').mono ?_
          rintro e W4 ⟨rfl, M4, G⟩
          have C4 := C3.kept G n1 n2
          have L4 := below_row L3 L3.size G M3.hs
          have HS : Hid (∀ k j, k < 4 → j < 8 → ¬ (k = a) → (fun j => if j / 8 = a then f (b4 * 8 + j % 8) else f j) (k * 8 + j) = f (k * 8 + j)) := fun k j hk hj h => by show (if (k * 8 + j) / 8 = a then _ else f (k * 8 + j)) = _; rw [if_neg (by omega)]
          generalize (fun j => if j / 8 = a then f (b4 * 8 + j % 8) else f j) = g at *
          clear M3 C3 L3 G X3 k1 k2 k3 k4
          go_wp2
          go_loop [13] (fun i => ∃ k : Nat, k ≤ 4 ∧ i = .int .i64 k) (fun i => 4 - (intOf i).toNat)
          case atStart => exact ⟨0, by omega, rfl⟩
          case round =>
            obtain ⟨k, hk, rfl⟩ := hrel
            by_cases hlt : k < 4
            · go_wp2
              go_loop [14] (fun i => ∃ j : Nat, j ≤ 8 ∧ i = .int .i64 j) (fun i => 8 - (intOf i).toNat)
              case atStart => exact ⟨0, by omega, rfl⟩
              case round =>
                obtain ⟨j, hj, rfl⟩ := hrel
                by_cases hjt : j < 8
                · by_cases hs : k = a
                  · obtain rfl := hs
                    go_wp2
                    go_round
                    case rel => exact ⟨j + 1, by omega, by go_num⟩
                    case measure => simp [intOf]; omega
                  · have hm := load_yes M4 k j hlt hjt
                    rw [HS.out k j hlt hjt hs] at hm
                    have hc := load_yes C4 k j hlt hjt
                    have t : ((k : Int) == (a : Int)) = false := by simp; omega
                    all_goals
                      skip
                      go_wp2_with fail
                      refine hm.mono ?_
                      rintro e w' ⟨rfl, rfl⟩
                      go_wp2_with fail
                      refine hc.mono ?_
                      rintro e w' ⟨rfl, rfl⟩
                      clear hm hc
                      go_wp2
                      go_round
                      case rel => exact ⟨j + 1, by omega, by go_num⟩
                      case measure => simp [intOf]; omega
                · go_wp2
                  go_round
                  case rel => exact ⟨k + 1, by omega, by go_num⟩
                  case measure => simp [intOf]; omega
            · go_wp2
              go_ret
              exact ⟨rfl, L4⟩
end Go.Proofs.Ytenicbjkhcoplaa
