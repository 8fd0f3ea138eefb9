/- What the document's own Whole answers. -/
import Derived.Test.YteoblaopbhdneaaKWhole
namespace Go.Proofs.Yteoblaopbhdneaa
open Go.RowKit

def RefWholePost (w : World) (r : Option (List Fnd)) (e : Ending) (w' : World) : Prop :=
  (match r with
   | none => e = .returned (.tuple #[.slice none 0 0, .int .i64 2])
   | some L => ∃ v, e = .returned (.tuple #[v, .int .i64 0]) ∧ w'.ownsRow w.heap.size 37 11 v L.length (fcs L)) ∧ Below w.heap.size w w'

theorem Ref.grown {B B' : Nat} {w w' : World} {q n m z : Nat} {R f : Nat → Nat} {v : Value} {xs : List Value} (h : Ref B w q n R f) (own : w.ownsRow B' 37 z v m xs) (hg : w.grownBy w' v.ownBlock) : Ref B w' q n R f := by
  obtain ⟨_, h1, _⟩ := h.top
  refine h.kept hg (own_ne own h1 (by decide)) fun k hk => ?_
  obtain ⟨_, _, h2, _⟩ := h.rows k hk
  exact own_ne own h2 (by decide)

theorem told_cases (x : Fnd) (p : Nat) : ((x.kind == 3) = true ∧ toldB x p = true) ∨ ((x.kind == 3) = false ∧ (x.kind == 2) = true ∧ (x.first == (p : Int)) = true ∧ toldB x p = true) ∨
    ((x.kind == 3) = false ∧ (x.kind == 2) = true ∧ (x.first == (p : Int)) = false ∧ toldB x p = false) ∨ ((x.kind == 3) = false ∧ (x.kind == 2) = false ∧ toldB x p = false) := by
  unfold toldB
  by_cases h3 : x.kind = 3
  · left; simp [h3]
  by_cases h2 : x.kind = 2
  · by_cases h1 : x.first = p
    · right; left; simp [h2, h1]
    · right; right; left; simp [h2, h1]
  · right; right; right; simp [h2, h3]

set_option maxRecDepth 100000 in
set_option maxHeartbeats 8000000 in
theorem refWhole_yes {B q n : Nat} {R f : Nat → Nat} {w : World} (F : Ref B w q n R f) (cap : Nat) (hf : Words n f) (root : Nat) :
    Calls Try.prog 17 #[.slice (some ⟨q, 0, none⟩) n cap, .int .i64 root] w (RefWholePost w (gather (walkF n f root) 4096)) := by
  obtain ⟨i, hi, hz0, hz1, hz2⟩ := info_parts info_found
  go_enter Try.func17, Try.ntmps17
  go_wp2
  go_loopw [6, 7] (fun v i W => ∃ (p : Nat) (L : List Fnd), p ≤ 4096 ∧ i = .int .i64 p ∧ L.length ≤ p ∧ gather (walkF n f root) p = some L ∧ W.ownsRow w.heap.size 37 11 v L.length (fcs L) ∧ Ref B W q n R f ∧ Below w.heap.size w W) (fun _ i _ => 4096 - (intOf i).toNat)
  case atStart => exact ⟨0, [], by omega, rfl, Nat.le_refl _, rfl, World.ownsRow_nil _ _ _ _, F, Below.refl _ _⟩
  case round =>
    obtain ⟨p, L, hp, rfl, hlen, hg, hown, F1, Lw⟩ := hrel
    have HG : Hid _ := hg
    clear hg F
    by_cases hlt : p < 4096
    · have hW := refWalk_any F1 cap hf root p hlt
      cases hx : walkF n f root p with
      | none =>
        rw [hx] at hW
        have hbad := gather_bad hx 4096 hlt
        have HB : Hid _ := hbad
        clear hbad hx HG hown
        unfold ansR fv nilF at hW
        simp only at hW
        go_wp2_with fail
        refine hW.mono ?_
        rintro e w1 ⟨rfl, hb⟩
        have L1 := below_call' Lw hb
        clear hb hW F1 Lw
        go_wp2
        go_ret2
        refine ⟨?_, L1.alloc L1.size _⟩
        rw [HB.out]
        rfl
      | some x =>
        rw [hx] at hW
        have hgs := gather_succ HG.out hx
        have HS : Hid _ := hgs
        clear HG hgs hx
        unfold ansR fv at hW
        simp only at hW
        go_wp2_with fail
        refine hW.mono ?_
        rintro e w1 ⟨rfl, hb⟩
        have L1 := below_call' Lw hb
        have F2 := F1.below hb
        have own1 : w1.ownsRow w.heap.size 37 11 u6 L.length (fcs L) := hown.kept (row := none) ⟨hb.os, hb.tape, hb.output, hb.size, fun k hk _ => hb.block k hk⟩ (by cases u6.ownBlock <;> simp)
        clear hb hW F1 Lw hown
        rcases told_cases x p with ⟨t1, ht⟩ | ⟨t1, t2, t3, ht⟩ | ⟨t1, t2, t3, ht⟩ | ⟨t1, t2, ht⟩
        · skip
          go_wp2_with (at_builtin; go_loud (refine wpList_append_own _ rfl (.tmp 38) (.tmp 40) 44 rfl w.heap.size 37 i (.agg #[.int .i64 0, .int .i64 0, .int .i64 0, .int .i64 0, .int .i64 0, .int .i64 0, .int .i64 0, .int .i64 0, .bool false, .bool false, .bool false]) 11 72 Try.underlying44 hi hz0 hz1 hz2 rfl (by decide) u6 L.length (fcs L) rfl ((own1.alloc _).alloc _) ⟨w1.heap.size + 1, 0, none⟩ 1 1 (fcells x).toList rfl rfl ?c1 ?c2 ?c3 ?c4 ?c5 ?_))
          case c1 => exact row_news w1 _ _ _
          case c2 => exact one_cells x
          case c3 => simp [maxLen]; omega
          case c4 => omega
          case c5 => have := L1.size; simp; omega
          intro v' w' hown' hgrow hnil
          have own2 := (own1.alloc (.cells (fcells x) 37)).alloc (.cells (fcells x) 37)
          have B2 : Below w1.heap.size w1 ((w1.alloc (.cells (fcells x) 37)).alloc (.cells (fcells x) 37)) := ((Below.refl _ _).alloc (Nat.le_refl _) _).alloc (by simp) _
          have F3 := (F2.below B2).grown own2 hgrow
          have L2 : Below w.heap.size w w' := (below_call' L1 B2).grown hgrow (by have := L1.size; simp; omega) (fun r e => (own2.lt r e).1)
          rw [← fcs_snoc] at hown'
          have hl1 : (L ++ [x]).length = L.length + 1 := by simp
          rw [← hl1] at hown'
          have HL1 : Hid ((L ++ [x]).length ≤ p + 1) := by show (L ++ [x]).length ≤ p + 1; rw [hl1]; omega
          have HR : Hid (gather (walkF n f root) (p + 1) = some (L ++ [x])) := by
            have := HS.out
            rw [ht] at this
            exact this
          have HH : Hid _ := And.intro F3 (And.intro hown' L2)
          clear HS ht hgrow hnil own1 own2 B2 F2 F3 L1 L2 hl1 hown' hi hz0 hz1 hz2
          generalize L ++ [x] = L' at *
          go_wp2
          obtain ⟨F3, own2, L2⟩ := HH.out
          go_roundw
          case rel => exact ⟨_, L', by omega, by go_num, HL1.out, HR.out, own2, F3, L2⟩
          case measure => simp [intOf]; omega
        · skip
          go_wp2_with (at_builtin; go_loud (refine wpList_append_own _ rfl (.tmp 38) (.tmp 40) 44 rfl w.heap.size 37 i (.agg #[.int .i64 0, .int .i64 0, .int .i64 0, .int .i64 0, .int .i64 0, .int .i64 0, .int .i64 0, .int .i64 0, .bool false, .bool false, .bool false]) 11 72 Try.underlying44 hi hz0 hz1 hz2 rfl (by decide) u6 L.length (fcs L) rfl ((own1.alloc _).alloc _) ⟨w1.heap.size + 1, 0, none⟩ 1 1 (fcells x).toList rfl rfl ?c1 ?c2 ?c3 ?c4 ?c5 ?_))
          case c1 => exact row_news w1 _ _ _
          case c2 => exact one_cells x
          case c3 => simp [maxLen]; omega
          case c4 => omega
          case c5 => have := L1.size; simp; omega
          intro v' w' hown' hgrow hnil
          have own2 := (own1.alloc (.cells (fcells x) 37)).alloc (.cells (fcells x) 37)
          have B2 : Below w1.heap.size w1 ((w1.alloc (.cells (fcells x) 37)).alloc (.cells (fcells x) 37)) := ((Below.refl _ _).alloc (Nat.le_refl _) _).alloc (by simp) _
          have F3 := (F2.below B2).grown own2 hgrow
          have L2 : Below w.heap.size w w' := (below_call' L1 B2).grown hgrow (by have := L1.size; simp; omega) (fun r e => (own2.lt r e).1)
          rw [← fcs_snoc] at hown'
          have hl1 : (L ++ [x]).length = L.length + 1 := by simp
          rw [← hl1] at hown'
          have HL1 : Hid ((L ++ [x]).length ≤ p + 1) := by show (L ++ [x]).length ≤ p + 1; rw [hl1]; omega
          have HR : Hid (gather (walkF n f root) (p + 1) = some (L ++ [x])) := by
            have := HS.out
            rw [ht] at this
            exact this
          have HH : Hid _ := And.intro F3 (And.intro hown' L2)
          clear HS ht hgrow hnil own1 own2 B2 F2 F3 L1 L2 hl1 hown' hi hz0 hz1 hz2
          generalize L ++ [x] = L' at *
          go_wp2
          obtain ⟨F3, own2, L2⟩ := HH.out
          go_roundw
          case rel => exact ⟨_, L', by omega, by go_num, HL1.out, HR.out, own2, F3, L2⟩
          case measure => simp [intOf]; omega
        · skip
          have HR : Hid (gather (walkF n f root) (p + 1) = some L) := by
            have := HS.out
            rw [ht] at this
            exact this
          have HH : Hid _ := And.intro F2 (And.intro own1 L1)
          clear HS ht own1 F2 L1 hi hz0 hz1 hz2
          go_wp2
          obtain ⟨F3, own2, L2⟩ := HH.out
          go_roundw
          case rel => exact ⟨_, L, by omega, by go_num, by omega, HR.out, own2.alloc _, F3.below ((Below.refl _ _).alloc (Nat.le_refl _) _), L2.alloc L2.size _⟩
          case measure => simp [intOf]; omega
        · skip
          have HR : Hid (gather (walkF n f root) (p + 1) = some L) := by
            have := HS.out
            rw [ht] at this
            exact this
          have HH : Hid _ := And.intro F2 (And.intro own1 L1)
          clear HS ht own1 F2 L1 hi hz0 hz1 hz2
          go_wp2
          obtain ⟨F3, own2, L2⟩ := HH.out
          go_roundw
          case rel => exact ⟨_, L, by omega, by go_num, by omega, HR.out, own2.alloc _, F3.below ((Below.refl _ _).alloc (Nat.le_refl _) _), L2.alloc L2.size _⟩
          case measure => simp [intOf]; omega
    · obtain rfl : p = 4096 := by omega
      have HH : Hid _ := And.intro hown Lw
      clear hown F1 Lw
      go_wp2
      go_ret2
      obtain ⟨hown, Lw⟩ := HH.out
      refine ⟨?_, Lw⟩
      rw [HG.out]
      exact ⟨_, rfl, hown⟩
end Go.Proofs.Yteoblaopbhdneaa
