/- slices.Index, Contains, Clone over entries. -/
import Derived.Test.YtpkagigjcnjlpaaEDelG
import Derived.Lib.SliceRun
namespace Go.Proofs.Ytpkagigjcnjlpaa
open Go.RowKit

set_option maxRecDepth 100000 in
set_option maxHeartbeats 4000000 in
theorem index_any {B : Nat} {w : World} {v : Value} {l : List Ent} (hown : Own B w v l) (h64 : l.length ≤ 64) (x : Ent) :
    Calls Try.prog 44 #[v, ev x] w fun e w' => e = .returned (.int .i64 (idxP (eqE x) l 0)) ∧ Below w.heap.size w w' := by
  have B1 : Below w.heap.size w (w.alloc (.cells (ecells x) 26)) := (Below.refl _ _).alloc (Nat.le_refl _) _
  have X1 := Laid.new w 26 (ecells x)
  rcases hown.cases' with ⟨rfl, rfl⟩ | ⟨g, c, cur, rfl, hB, hg0, hg, hlc, hcm, hs, hh⟩
  · unfold ev
    clear X1 hown
    have HB : Hid (Below w.heap.size w (w.alloc (.cells (ecells x) 26))) := B1
    clear B1
    go_enter Try.func44, Try.ntmps44
    go_wp2_with fail
    go_loopw [5, 8] (fun _ i W => i = .int .i64 0 ∧ Hid (Below w.heap.size w W)) (fun _ _ _ => 0)
    case atStart => exact ⟨rfl, HB⟩
    case round =>
      obtain ⟨rfl, L⟩ := hrel
      go_wp2
      go_ret
      exact ⟨rfl, L.out⟩
  · have HH : Hid _ := hh
    have H0 : Hid (Below w.heap.size w (w.alloc (.cells (ecells x) 26)) ∧ Laid (w.alloc (.cells (ecells x) 26)) w.heap.size 26 (ecells x)) := And.intro B1 X1
    have hcm' : c ≤ 9223372036854775807 := by unfold maxLen at hcm; omega
    clear hh hown B1 X1
    unfold ev
    go_enter Try.func44, Try.ntmps44
    go_wp2_with fail
    go_loopw [5, 8] (fun _ i W => ∃ k : Nat, k ≤ l.length ∧ i = .int .i64 k ∧ Hid (∀ y ∈ l.take k, eqE x y = false) ∧ Hid (Laid W w.heap.size 26 (ecells x)) ∧ Hid (Below w.heap.size w W)) (fun _ i _ => l.length - (intOf i).toNat)
    case atStart => exact ⟨0, by omega, rfl, by simp [Hid], H0.out.2, H0.out.1⟩
    case round =>
      obtain ⟨k, hk, rfl, hno, hX, L⟩ := hrel
      clear H0
      by_cases hlt : k < l.length
      · have hltz : (k : Int) < (l.length : Int) := by omega
        obtain ⟨c0, c1, c2, c3, c4, c5⟩ := head_cells (w := wr) ((L.out.block g hg0).trans hg) (HH.out k hlt)
        obtain ⟨x0, x1, x2, x3, x4, x5⟩ := hX.out.ent
        have hhit := idxP_hit (eqE x) l 0 k hlt
        have htk := take_snoc l k hlt
        have he := eql_ent x (l.getD k Ent.zero)
        generalize l.getD k Ent.zero = y at *
        have HT : Hid _ := htk
        have HX : Hid _ := hhit
        clear htk hhit
        unfold ev at he
        cases hp : eqE x y with
        | true =>
          rw [hp] at he
          have HP : Hid _ := hp
          clear hp
          go_wp2_with fail
          go_quiet (fail)
          go_wp2
          go_ret
          refine ⟨ret_int ?_, below_drewN L.out _⟩
          rw [HX.out HP.out hno.out]
          simp
        | false =>
          rw [hp] at he
          have HP : Hid _ := hp
          clear hp
          go_wp2_with fail
          go_quiet (fail)
          go_wp2
          go_roundw
          case rel => exact ⟨k + 1, by omega, by go_num, by
            intro z hz
            rw [HT.out] at hz
            rcases List.mem_append.1 hz with h | h
            · exact hno.out z h
            · simp at h
              rw [h]
              exact HP.out, hX, below_drewN L.out _⟩
          case measure => simp [intOf]; omega
      · obtain rfl : k = l.length := by omega
        have hltz : ¬ (l.length : Int) < (l.length : Int) := by omega
        go_wp2
        go_ret
        refine ⟨ret_int ?_, L.out⟩
        rw [idxP_miss (eqE x) l 0 (by simpa [Hid] using hno.out)]

/-- Is it held? -/
def hasB (l : List Ent) (x : Ent) : Bool := l.any fun y => eqE x y
theorem has_idx (x : Ent) (l : List Ent) : decide (0 ≤ idxP (eqE x) l 0) = hasB l x := by
  unfold hasB
  rcases idxP_spec (eqE x) l 0 with ⟨e, h⟩ | ⟨k, hk, e, hy, _⟩
  · rw [e]
    symm
    rw [show decide ((0 : Int) ≤ -1) = false by decide, List.any_eq_false]
    intro y hy
    rw [h y hy]
    simp
  · rw [e]
    have : (l.any fun y => eqE x y) = true := by
      rw [List.any_eq_true]
      exact ⟨_, mem_getD l k hk, hy⟩
    rw [this]
    simp
set_option maxHeartbeats 1000000 in
theorem contains_any {B : Nat} {w : World} {v : Value} {l : List Ent} (hown : Own B w v l) (h64 : l.length ≤ 64) (x : Ent) :
    Calls Try.prog 33 #[v, ev x] w fun e w' => e = .returned (.bool (hasB l x)) ∧ Below w.heap.size w w' := by
  have B1 : Below w.heap.size w (w.alloc (.cells (ecells x) 26)) := (Below.refl _ _).alloc (Nat.le_refl _) _
  have hI := index_any (hown.below B1) h64 x
  rw [← has_idx]
  obtain ⟨ao, n, c, rfl⟩ : ∃ ao n c, v = .slice ao n c := by
    rcases hown.cases' with ⟨rfl, _⟩ | ⟨g, c, cur, rfl, _⟩
    · exact ⟨_, _, _, rfl⟩
    · exact ⟨_, _, _, rfl⟩
  clear hown
  generalize idxP (eqE x) l 0 = r at hI ⊢
  have HB : Hid (Below w.heap.size w (w.alloc (.cells (ecells x) 26))) := B1
  clear B1
  unfold ev ecells at *
  go_enter Try.func33, Try.ntmps33
  go_wp2_with (go_at_call 44; refine hI.mono ?_; rintro e w1 ⟨rfl, hb⟩)
  go_ret
  exact ⟨rfl, below_call HB.out (by simp) hb⟩

/-- What Clone tells: a row of its own. -/
def ClonePost (w : World) (l : List Ent) (e : Ending) (w' : World) : Prop := ∃ v', e = .returned v' ∧ Own w.heap.size w' v' l ∧ Below w.heap.size w w'
set_option maxRecDepth 100000 in
set_option maxHeartbeats 2000000 in
theorem clone_any {B : Nat} {w : World} {v : Value} {l : List Ent} (hown : Own B w v l) (h64 : l.length ≤ 64) :
    Calls Try.prog 40 #[v] w (ClonePost w l) := by
  obtain ⟨i, hi, hz0, hz1, hz2⟩ := info_parts info_ent
  have q22 : ∀ (w : World) (a : Option Addr) (n c n' c' : Nat), (binOp .eql 39 (.slice a n c) (.slice none n' c')).run Try.prog w = .ok (.bool a.isNone) w := fun w a n c n' c' => Lib.run_eql_slice_nil w _ _ a n c n' c' Try.underlying39
  rcases hown.cases' with ⟨rfl, rfl⟩ | ⟨g, c, cur, rfl, hB, hg0, hg, hlc, hcm, hs, hh⟩
  · go_enter Try.func40, Try.ntmps40
    go_wp2
    go_ret
    exact ⟨_, rfl, World.ownsRow_nil _ _ _ _, Below.refl _ _⟩
  · have hcm' : c ≤ 9223372036854775807 := by unfold maxLen at hcm; omega
    go_enter Try.func40, Try.ntmps40
    go_wp2_with (at_builtin; refine wpList_append_own _ rfl (.tmp 5) (.tmp 6) 39 rfl w.heap.size 26 i (.agg #[.int .i64 0, .int .i64 0, .int .i64 0, .int .i64 0, .bool false, .bool false]) 6 40 Try.underlying39 hi hz0 hz1 hz2 rfl (by decide) _ _ _ rfl (World.ownsRow_made w #[] 0 (Nat.le_refl _) (Nat.zero_le _) (by simp)) ⟨g, 0, none⟩ l.length c (ecs l) rfl (ecs_len l) ?c1 ?c2 ?c3 ?c4 ?c5 ?_)
    case c1 =>
      intro j u hj
      rw [Addr.add_lit, Nat.zero_add]
      have hjl : j < l.length * 6 := by
        have := (List.getElem?_eq_some_iff.1 hj).1
        rwa [ecs_len] at this
      rw [cell_alloc_old hg0, cell_of_row w g _ cur _ _ hg]
      rw [← take_of_head hh, List.getElem?_take_of_lt hjl, Array.getElem?_toList] at hj
      exact hj
    case c2 => exact ecs_one l
    case c3 => simp [maxLen]; omega
    case c4 => omega
    case c5 => simp
    intro v' w1 ho hgrow hnil
    go_wp2
    go_ret
    refine ⟨v', rfl, ?_, ((Below.refl _ w).alloc (Nat.le_refl _) _).grown hgrow (by simp) (by intro k hk; simp [Value.ownBlock] at hk; omega)⟩
    show w1.ownsRow w.heap.size 26 6 v' l.length (ecs l)
    simpa using ho
end Go.Proofs.Ytpkagigjcnjlpaa
