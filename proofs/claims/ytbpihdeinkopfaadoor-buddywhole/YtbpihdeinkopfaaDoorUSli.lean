/- slices.Clone and slices.Delete over rows of one kind of record. -/
import Derived.Test.YtbpihdeinkopfaaDoorUBlk
import Derived.Test.YtbpihdeinkopfaaDoorZRow4
import Derived.Test.YtbpihdeinkopfaaDoorZ
import Derived.Lib.Slices
import Derived.Deep.RegionLaw
namespace Go.Proofs.YtbpihdeinkopfaaDoor
open Go.RowKit

theorem heap_alloc2_rB (w : World) (o : Obj) : (w.alloc o).heap.size = w.heap.size + 1 := by simp

/-- What Clone tells: a row of its own. -/
def ClonePrB (w : World) (l : List Bk) (e : Ending) (w' : World) : Prop := ∃ v', e = .returned v' ∧ Row rB w.heap.size w' v' l ∧ Below w.heap.size w w'
set_option maxRecDepth 100000 in
set_option maxHeartbeats 2000000 in
theorem clone_rB {B : Nat} {w : World} {v : Value} {l : List Bk} (hown : Row rB B w v l) (hm : l.length ≤ 4096) :
    Calls Tryd.prog 36 #[v] w (ClonePrB w l) := by
  have q22 : ∀ (w : World) (a : Option Addr) (n c n' c' : Nat), (binOp .eql 46 (.slice a n c) (.slice none n' c')).run Tryd.prog w = .ok (.bool a.isNone) w := fun w a n c n' c' => Lib.run_eql_slice_nil w _ _ a n c n' c' Tryd.underlying46
  rcases hown.cases with ⟨rfl, rfl⟩ | ⟨g, c, cur, rfl, hB, hg0, hg, hlc, hcm, hs, hh⟩
  · go_enter Tryd.func36, Tryd.ntmps36
    go_wp2
    go_ret
    exact ⟨_, rfl, Row.nil _ _ _, Below.refl _ _⟩
  · have hcm' : c ≤ 9223372036854775807 := by unfold maxLen at hcm; omega
    have HS : Hid (Seen rB (w.alloc (.cells #[] 48)) (some ⟨g, 0, none⟩) c l) := hown.seen.2.below ((Below.refl _ _).alloc (Nat.le_refl _) _)
    have HR0 : Hid (Row rB w.heap.size (w.alloc (.cells #[] 48)) (.slice (some ⟨w.heap.size, 0, none⟩) 0 0) []) := World.ownsRow_made w #[] 0 (Nat.le_refl _) (Nat.zero_le _) (by simp)
    clear hown hh hs hcm hB
    go_enter Tryd.func36, Tryd.ntmps36
    go_wp2_with (at_builtin; refine list_app rB.kin rfl _ _ rfl w.heap.size _ [] l rfl HR0.out (some ⟨g, 0, none⟩) l.length c rfl rfl HS.out ?c3 ?c4 ?c5 ?_)
    case c3 => simp [maxLen]; omega
    case c4 => simp [rB]; omega
    case c5 => simp
    intro v' w1 ho hgrow
    have HO : Hid (Row rB w.heap.size w1 v' l) := ho
    clear ho
    go_wp2
    go_ret
    exact ⟨v', rfl, HO.out, ((Below.refl _ w).alloc (Nat.le_refl _) _).grown hgrow (by simp) (by intro k hk; simp [Value.ownBlock] at hk; omega)⟩

/-- What Delete, Insert and Replace tell: the row that was, turned, or a new one. -/
def TurnPrB (w : World) (B : Nat) (v : Value) (l : List Bk) (e : Ending) (w' : World) : Prop := ∃ v', e = .returned v' ∧ Row rB B w' v' l ∧ Keeps w w' (fun b => v.ownBlock = some b) ∧ ∀ g, v'.ownBlock = some g → v.ownBlock = some g ∨ w.heap.size ≤ g
/-- What Delete tells, to the block. -/
def DelPrB (w : World) (B g c : Nat) (l : List Bk) (e : Ending) (w' : World) : Prop := e = .returned (.slice (some ⟨g, 0, none⟩) l.length c) ∧ Row rB B w' (.slice (some ⟨g, 0, none⟩) l.length c) l ∧ Keeps w w' (fun b => b = g)
theorem keeps_own {w w' : World} {g n c : Nat} (h : Keeps w w' (fun b => b = g)) : Keeps w w' (fun b => (Value.slice (some ⟨g, 0, none⟩) n c).ownBlock = some b) := h.mono fun b _ e => by
  subst e
  rfl
theorem keeps_drew {w w' : World} {s : Nat → Prop} (h : Keeps w.drew w' s) : Keeps w w' s := ⟨h.os, h.tape, h.output, h.size, h.block⟩

set_option maxRecDepth 100000 in
set_option maxHeartbeats 4000000 in
theorem deleteI_rB {B : Nat} {w : World} {g c : Nat} {l : List Bk} (hown : Row rB B w (.slice (some ⟨g, 0, none⟩) l.length c) l) (i : Nat) (hi : i < l.length) :
    Calls Tryd.prog 43 #[.slice (some ⟨g, 0, none⟩) l.length c, .int .i64 i, .int .i64 ((i + 1 : Nat) : Int)] w (DelPrB w B g c (l.take i ++ l.drop (i + 1))) := by
  obtain ⟨i0, z0, hi0, hz0, hz1, hz2, hzs⟩ := rB.kin.inf
  obtain ⟨_, hB, hlt, cur, hg, hlc, hcm, hs, hc⟩ := hown.cur
  have hcm' : c ≤ 9223372036854775807 := by unfold maxLen at hcm; omega
  obtain ⟨news, hnews⟩ : ∃ news, news = rB.all (l.drop (i + 1)) := ⟨_, rfl⟩
  have hlen : news.length = (l.length - (i + 1)) * 2 := by rw [hnews, Rec.all_len, List.length_drop]; rfl
  have hnw := hown.news (i + 1)
  rw [← hnews] at hnw
  simp only [show rB.n = 2 from rfl] at hnw
  obtain ⟨A, hA, hsrc⟩ : ∃ A : Addr, (if c = i + 1 then some (⟨g, 0, none⟩ : Addr) else some ⟨g, (i + 1) * 2, none⟩) = some A ∧ Hid (∀ t u, news[t]? = some u → w.drew.cell? (A.add t) = some u) := by
    by_cases h : c = i + 1
    · refine ⟨⟨g, 0, none⟩, by simp [h], fun t u hu => ?_⟩
      have h0 : news.length = 0 := by rw [hlen]; omega
      rw [List.length_eq_zero_iff.1 h0] at hu
      simp at hu
    · refine ⟨⟨g, (i + 1) * 2, none⟩, by simp [h], fun t u hu => ?_⟩
      rw [Addr.add_lit]
      exact hnw t u hu
  have s1 : Hid (news.length = (l.length - (i + 1)) * 2) := hlen
  have s2 : Hid (∀ u ∈ news, u.oneCell' = true) := by rw [hnews]; exact rB.all_oneCell _
  have s3 : Hid (∀ t, t < news.length → (w.drew.cell? ⟨g, 0 + i * 2 + t, none⟩).isSome = true ∧ w.drew.frozen? ⟨g, 0 + i * 2 + t, none⟩ = false) := by
    intro t ht
    rw [hlen] at ht
    exact hown.spare (0 + i * 2 + t) (by show _ < c * 2; omega)
  obtain ⟨W1, hW1⟩ : ∃ W1, W1 = w.drew.setCells g (0 + i * 2) news := ⟨_, rfl⟩
  have hk1 : Keeps w W1 (fun b => b = g) := by rw [hW1]; exact keeps_drew (Keeps.sets news w.drew g _)
  have hr1 : Row rB B W1 (.slice (some ⟨g, 0, none⟩) (i + (l.length - (i + 1))) c) (l.take i ++ l.drop (i + 1)) := by
    have h1 : Row rB B w.drew (.slice (some ⟨g, 0, none⟩) l.length c) l := hown.below (Below.refl _ _).drew
    have h2 := h1.repl i (i + 1) [] (by omega) (by simp; omega) (nn := i + (l.length - (i + 1))) (by simp)
    rw [hW1, hnews, Nat.zero_add]
    simpa [Rec.all, World.setCells, show rB.n = 2 from rfl] using h2
  have hle : (l.take i ++ l.drop (i + 1)).length = i + (l.length - (i + 1)) := by simp; omega
  obtain ⟨vs, hvl, hcl⟩ := run_clearR rB.kin rB.zone W1 g ((i + (l.length - (i + 1))) * 2) (l.length - (i + (l.length - (i + 1)))) (c - (i + (l.length - (i + 1)))) (fun j hj => (hr1.spare _ (by
    have hj' : j < (l.length - (i + (l.length - (i + 1)))) * 2 := hj
    show _ < c * 2
    omega)).1) (fun j => hr1.frozen j)
  have X : Hid (DelPrB w B g c (l.take i ++ l.drop (i + 1)) (.returned (.slice (some ⟨g, 0, none⟩) (i + (l.length - (i + 1))) c)) (W1.setCells g ((i + (l.length - (i + 1))) * 2) vs)) := by
    refine ⟨by rw [hle], ?_, hk1.trans (Keeps.sets vs W1 g _) fun _ _ h => h⟩
    rw [hle]
    exact hr1.tail _ vs (by rw [hle]; exact Nat.le_refl _)
  have hW : Hid (W1 = w.drew.setCells g (0 + i * 2) news) := hW1
  clear hW1 hg hs hc hown hnews hlen hB hvl hr1 hk1 hnw hle hlt
  have hic : i ≤ c := by omega
  have hjc : i + 1 ≤ c := by omega
  have q1 : (0 : Int) ≤ (i : Int) + 1 ∧ (i : Int) + 1 ≤ (l.length : Int) := by omega
  go_enter Tryd.func43, Tryd.ntmps43
  go_wp2_with fail
  go_region_law (refine step_append_room rfl (.tmp 22) (.tmp 25) 46 rfl 48 i0 2 Tryd.underlying46 hi0 hz1 g 0 i c (by simp [Act.eval, Act.put]) A (l.length - (i + 1)) (c - (i + 1)) news (by simp [Act.eval, Act.put]) s1.out hsrc.out s2.out (by omega) s3.out ?_; rw [← hW.out])
  go_wp2
  go_ret
  exact X.out
theorem delete_rB {B : Nat} {w : World} {g c : Nat} {l : List Bk} (hown : Row rB B w (.slice (some ⟨g, 0, none⟩) l.length c) l) (i : Nat) (hi : i < l.length) :
    Calls Tryd.prog 43 #[.slice (some ⟨g, 0, none⟩) l.length c, .int .i64 i, .int .i64 ((i + 1 : Nat) : Int)] w (TurnPrB w B (.slice (some ⟨g, 0, none⟩) l.length c) (l.take i ++ l.drop (i + 1))) :=
  (deleteI_rB hown i hi).mono fun _ _ h => ⟨_, h.1, h.2.1, keeps_own h.2.2, fun _ hg' => Or.inl hg'⟩
end Go.Proofs.YtbpihdeinkopfaaDoor
