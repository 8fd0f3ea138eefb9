/- What walk.Whole answers. -/
import Derived.Test.YteoblaopbhdneaaKEq
import Derived.OwnWalk
namespace Go.Proofs.Yteoblaopbhdneaa
open Go.RowKit

def fcs (L : List Fnd) : List Value := L.flatMap fun x => (fcells x).toList
theorem fcs_snoc (L : List Fnd) (x : Fnd) : fcs (L ++ [x]) = fcs L ++ (fcells x).toList := by simp [fcs]
theorem info_found : (Try.prog.info? 37).map (fun i => (i.zero, i.size, i.bytes)) = some (some (.agg #[.int .i64 0, .int .i64 0, .int .i64 0, .int .i64 0, .int .i64 0, .int .i64 0, .int .i64 0, .int .i64 0, .bool false, .bool false, .bool false]), 11, 72) := by kernel_rfl

def WholePost (w : World) (r : Option (List Fnd)) (e : Ending) (w' : World) : Prop :=
  (match r with
   | none => e = .returned (.tuple #[.slice none 0 0, errF])
   | some L => ∃ v, e = .returned (.tuple #[v, .nilIface]) ∧ w'.ownsRow w.heap.size 37 11 v L.length (fcs L)) ∧ Below w.heap.size w w'

theorem own_ne {w : World} {B n z : Nat} {t t' : TypeId} {v : Value} {xs : List Value} {b : Nat} {c : Array Value} {fr : Nat × Nat} (h : w.ownsRow B t z v n xs) (hb : w.heap[b]? = some (.cells c t' fr)) (ht : t ≠ t') : some b ≠ v.ownBlock := by
  intro e
  rcases h.2 with ⟨rfl, _⟩ | ⟨q, cap, cur, rfl, _, hg, _⟩
  · simp [Value.ownBlock] at e
  · simp [Value.ownBlock] at e
    subst e
    rw [hg] at hb
    simp at hb
    exact ht hb.2.1
theorem Mem.grown {B B' : Nat} {w w' : World} {b s n m z : Nat} {f : Nat → Nat} {v : Value} {xs : List Value} (h : Mem B w b s n f) (own : w.ownsRow B' 37 z v m xs) (hg : w.grownBy w' v.ownBlock) : Mem B w' b s n f := by
  obtain ⟨_, _, h1⟩ := h.ptr
  obtain ⟨_, h2, _⟩ := h.row
  exact h.kept hg (own_ne own h1 (by decide)) (own_ne own h2 (by decide))
theorem row_news (w : World) (v : Obj) (t : TypeId) (cs : Array Value) : ∀ j u, cs.toList[j]? = some u → ((w.alloc v).alloc (.cells cs t)).cell? ((⟨w.heap.size + 1, 0, none⟩ : Addr).add j) = some u := by
  intro j u hj
  have hadd : (⟨w.heap.size + 1, 0, none⟩ : Addr).add j = ⟨w.heap.size + 1, j, none⟩ := by rw [Addr.add_lit]; simp
  rw [hadd, cell_of_row _ _ j cs t (0, 0) (heap_alloc2_new w _ _)]
  simpa using hj
theorem one_cells (x : Fnd) : ∀ u ∈ (fcells x).toList, u.oneCell' = true := by
  intro u hu
  simp [fcells] at hu
  rcases hu with rfl | rfl | rfl | rfl | rfl | rfl | rfl | rfl | rfl | rfl | rfl <;> rfl

theorem whole_nil (root : Int) (w : World) :
    Calls Try.prog 16 #[.pointer none, .int .i64 root] w fun e w' => e = .returned (.tuple #[.slice none 0 0, errA]) ∧ w' = w := by
  go_enter Try.func16, Try.ntmps16
  go_wp2_with (go_at_call 28; refine (hasRoot_nil _ _).mono ?_; rintro e w1 ⟨rfl, hw⟩; obtain rfl := hw.symm; clear hw)
  go_ret2
  exact ⟨rfl, rfl⟩
theorem whole_no {B : Nat} {w : World} {b s n : Nat} {f : Nat → Nat} (h : Mem B w b s n f) (root : Int) (hr : okF n root = false) :
    Calls Try.prog 16 #[.pointer (some ⟨b, 0, none⟩), .int .i64 root] w fun e w' => e = .returned (.tuple #[.slice none 0 0, errA]) ∧ w' = w := by
  have hR := hasRoot_any h root
  rw [hr] at hR
  clear h
  go_enter Try.func16, Try.ntmps16
  go_wp2_with (go_at_call 28; refine hR.mono ?_; rintro e w1 ⟨rfl, hw⟩; obtain rfl := hw.symm; clear hw)
  go_ret2
  exact ⟨rfl, rfl⟩

set_option maxRecDepth 100000 in
set_option maxHeartbeats 4000000 in
theorem whole_yes {B : Nat} {w : World} {b s n : Nat} {f : Nat → Nat} (h : Mem B w b s n f) (hf : Words n f) (root : Nat) (hr : root < n) :
    Calls Try.prog 16 #[.pointer (some ⟨b, 0, none⟩), .int .i64 root] w (WholePost w (gather (walkF n f root) 4096)) := by
  obtain ⟨i, hi, hz0, hz1, hz2⟩ := info_parts info_found
  have hR := hasRoot_any h root
  rw [show okF n root = true by simp [okF]; omega] at hR
  go_enter Try.func16, Try.ntmps16
  go_wp2_with (go_at_call 28; refine hR.mono ?_; rintro e w1 ⟨rfl, hw⟩; obtain rfl := hw.symm; clear hw)
  clear hR
  go_loopw [6, 7] (fun v i W => ∃ (p : Nat) (L : List Fnd), p ≤ 4096 ∧ i = .int .i64 p ∧ L.length ≤ p ∧ gather (walkF n f root) p = some L ∧ lined (walkF n f root) p ∧ W.ownsRow w.heap.size 37 11 v L.length (fcs L) ∧ Mem B W b s n f ∧ Below w.heap.size w W) (fun _ i _ => 4096 - (intOf i).toNat)
  case atStart => exact ⟨0, [], by omega, rfl, Nat.le_refl _, rfl, lined_zero n f root, World.ownsRow_nil _ _ _ _, h, Below.refl _ _⟩
  case round =>
    obtain ⟨p, L, hp, rfl, hlen, hg, hlin, hown, M, Lw⟩ := hrel
    have HG : Hid _ := hg
    have HN : Hid _ := hlin
    clear hg hlin
    by_cases hlt : p < 4096
    · have hW := walk_yes M hf root p hr hlt
      cases hx : walkF n f root p with
      | none =>
        rw [hx] at hW
        have hbad := gather_bad hx 4096 hlt
        have HB : Hid _ := hbad
        clear hbad hx HG HN hown
        unfold ansF fv nilF at hW
        simp only at hW
        go_wp2_with fail
        refine hW.mono ?_
        rintro e w1 ⟨rfl, hb⟩
        have L1 := below_call' Lw hb
        clear hb hW M Lw
        go_wp2
        go_ret2
        refine ⟨?_, L1.alloc L1.size _⟩
        rw [HB.out]
        rfl
      | some x =>
        rw [hx] at hW
        obtain ⟨l, hl3, hlv, hal⟩ := HN.out x hx
        have hgs := gather_step HG.out hx hlv hl3 hal
        have HS : Hid _ := hgs
        have hstep := step_cases hl3
        have hp' : p + stepN l ≤ 4096 ∧ 1 ≤ stepN l := by
          rcases hstep with ⟨_, e⟩ | ⟨_, e⟩ | ⟨_, e⟩ | ⟨_, e⟩ <;> rw [e] at hal ⊢ <;> omega
        have hPB : ∀ w, Calls Try.prog 33 #[.int .i64 x.level] w fun e w' => e = .returned (.int .i64 ((3 * (3 - l) : Nat) : Int)) ∧ w' = w := fun w => by rw [hlv]; exact pageBits_at l w hl3
        clear HG HN hgs hal hx hlv
        unfold ansF fv at hW
        simp only at hW
        go_wp2_with fail
        refine hW.mono ?_
        rintro e w1 ⟨rfl, hb⟩
        have L1 := below_call' Lw hb
        have M1 := M.below hb
        have own1 : w1.ownsRow w.heap.size 37 11 u6 L.length (fcs L) := hown.kept (row := none) ⟨hb.os, hb.tape, hb.output, hb.size, fun k hk _ => hb.block k hk⟩ (by cases u6.ownBlock <;> simp)
        clear hb hW M Lw hown
        have hIL := isLeaf_any x.kind
        rw [show decide (x.kind = 2 ∨ x.kind = 3) = leafB x from rfl] at hIL
        cases hlf : leafB x
        · rw [hlf] at hIL
          go_wp2_with (go_at_call 32; refine (hIL _).mono ?_; rintro e w2 ⟨rfl, hw⟩; obtain rfl := hw.symm; clear hw)
          refine (hPB _).mono ?_
          rintro e w2 ⟨rfl, hw⟩
          obtain rfl := hw.symm
          clear hw hIL
          have HR : Hid (gather (walkF n f root) (p + stepN l) = some L ∧ lined (walkF n f root) (p + stepN l)) := by
            have := HS.out
            rw [hlf] at this
            exact this
          clear HS hlf
          have HH : Hid _ := And.intro M1 (And.intro own1 L1)
          clear M1 own1 L1
          rcases hstep with ⟨rfl, e⟩ | ⟨rfl, e⟩ | ⟨rfl, e⟩ | ⟨rfl, e⟩
          all_goals
            rw [e] at hp' HR
            clear e hi hz0 hz1 hz2 hPB
            go_wp2
            obtain ⟨M2, own2, L2⟩ := HH.out
            go_roundw
            case rel => exact ⟨_, L, hp'.1, by go_num, by omega, HR.out.1, HR.out.2, own2.alloc _, M2.below ((Below.refl _ _).alloc (Nat.le_refl _) _), L2.alloc L2.size _⟩
            case measure => simp [intOf]; omega
        · rw [hlf] at hIL
          go_wp2_with (first | (go_at_call 32; refine (hIL _).mono ?_; rintro e w2 ⟨rfl, hw⟩; obtain rfl := hw.symm; clear hw) | (at_builtin; go_loud (refine wpList_append_own _ rfl (.tmp 30) (.tmp 32) 44 rfl w.heap.size 37 i (.agg #[.int .i64 0, .int .i64 0, .int .i64 0, .int .i64 0, .int .i64 0, .int .i64 0, .int .i64 0, .int .i64 0, .bool false, .bool false, .bool false]) 11 72 Try.underlying44 hi hz0 hz1 hz2 rfl (by decide) u6 L.length (fcs L) rfl ((own1.alloc _).alloc _) ⟨w1.heap.size + 1, 0, none⟩ 1 1 (fcells x).toList rfl rfl ?c1 ?c2 ?c3 ?c4 ?c5 ?_)))
          case c1 => exact row_news w1 _ _ _
          case c2 => exact one_cells x
          case c3 => simp [maxLen]; omega
          case c4 => omega
          case c5 => have := L1.size; simp; omega
          intro v' w' hown' hgrow hnil
          have own2 := (own1.alloc (.cells (fcells x) 37)).alloc (.cells (fcells x) 37)
          have B2 : Below w1.heap.size w1 ((w1.alloc (.cells (fcells x) 37)).alloc (.cells (fcells x) 37)) := ((Below.refl _ _).alloc (Nat.le_refl _) _).alloc (by simp) _
          have M2 := (M1.below B2).grown own2 hgrow
          have X2 : Laid w' w1.heap.size 37 (fcells x) := ((Laid.new w1 37 (fcells x)).old _).kept hgrow (fun e => by have := (own1.lt _ e.symm).2; omega)
          have L2 : Below w.heap.size w w' := (below_call' L1 B2).grown hgrow (by have := L1.size; simp; omega) (fun r e => (own2.lt r e).1)
          rw [← fcs_snoc] at hown'
          have hl1 : (L ++ [x]).length = L.length + 1 := by simp
          rw [← hl1] at hown'
          have HL1 : Hid ((L ++ [x]).length ≤ p + 1) := by show (L ++ [x]).length ≤ p + 1; rw [hl1]; omega
          have HR : Hid (gather (walkF n f root) (p + stepN l) = some (L ++ [x]) ∧ lined (walkF n f root) (p + stepN l)) := by
            have := HS.out
            rw [hlf] at this
            exact this
          obtain ⟨-, x1, -⟩ := X2.found
          have HH : Hid _ := And.intro M2 (And.intro hown' L2)
          clear HS hlf hgrow hnil own1 own2 B2 M1 M2 L1 L2 X2 hl1 hIL hown' hi hz0 hz1 hz2
          generalize L ++ [x] = L' at *
          go_wp2_with fail
          refine (hPB _).mono ?_
          rintro e w2 ⟨rfl, hw⟩
          obtain rfl := hw.symm
          clear hw
          rcases hstep with ⟨rfl, e⟩ | ⟨rfl, e⟩ | ⟨rfl, e⟩ | ⟨rfl, e⟩
          all_goals
            rw [e] at hp' HR
            clear e hPB
            go_wp2
            obtain ⟨M2, own2, L2⟩ := HH.out
            go_roundw
            case rel => exact ⟨_, L', hp'.1, by go_num, by have := HL1.out; omega, HR.out.1, HR.out.2, own2, M2, L2⟩
            case measure => simp [intOf]; omega
    · obtain rfl : p = 4096 := by omega
      have HH : Hid _ := And.intro hown Lw
      clear hown M Lw HN
      go_wp2
      go_ret2
      obtain ⟨hown, Lw⟩ := HH.out
      refine ⟨?_, Lw⟩
      rw [HG.out]
      exact ⟨_, rfl, hown⟩
end Go.Proofs.Yteoblaopbhdneaa
