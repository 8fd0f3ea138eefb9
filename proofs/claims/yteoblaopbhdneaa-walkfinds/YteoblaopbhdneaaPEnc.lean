/- What pte.Encode answers, for all arguments. -/
import Derived.Test.YteoblaopbhdneaaPWord
import Derived.Laws.StructEq
import Derived.Deep.RegionHeld3
namespace Go.Proofs.Yteoblaopbhdneaa
open Go.RowKit

/-- Are two descriptors the same? -/
def eqD (a b : Dsc) : Bool := a.kind == b.kind && (a.frame == b.frame && (a.wr == b.wr && (a.ex == b.ex && (a.sn == b.sn && (a.fo == b.fo && a.so == b.so)))))
theorem eqD_iff {a b : Dsc} : eqD a b = true ↔ a = b := by
  cases a; cases b
  simp [eqD]
theorem eqD_false {a b : Dsc} : eqD a b = false ↔ a ≠ b := by
  rw [← Bool.not_eq_true, eqD_iff]
theorem eqD_run (a b : Dsc) (w : World) : (Op.equalIn 10000 60 (dv a) (dv b)).run Try.prog w = .ok (eqD a b) w := by
  have hi : ∀ (n : Nat) (x y : Int) (w : World), (Op.equalIn (n + 1) 3 (.int .i64 x) (.int .i64 y)).run Try.prog w = .ok (x == y) w := fun n x y w => run_equalIn_int w n 3 .i64 .i64 x y Try.underlying3
  have hb : ∀ (n : Nat) (x y : Bool) (w : World), (Op.equalIn (n + 1) 4 (.bool x) (.bool y)).run Try.prog w = .ok (x == y) w := fun n x y w => run_equalIn_bool' w n 4 x y Try.underlying4
  unfold dv
  rw [run_equalIn_agg w 9999 _ _ _ (by kernel_rfl) (by kernel_rfl)]
  obtain ⟨a1, a2, a3, a4, a5, a6, a7⟩ := a
  obtain ⟨b1, b2, b3, b4, b5, b6, b7⟩ := b
  unfold eqD
  simp only
  simp [go_sem, Program.fieldsOf, Try.underlying60, Op.eqFields, hi, hb]
  by_cases h1 : a1 = b1
  · by_cases h2 : a2 = b2
    · by_cases h3 : a3 = b3
      · by_cases h4 : a4 = b4
        · by_cases h5 : a5 = b5
          · by_cases h6 : a6 = b6
            · by_cases h7 : a7 = b7 <;> simp [h1, h2, h3, h4, h5, h6, h7]
            · simp [h1, h2, h3, h4, h5, h6]
          · simp [h1, h2, h3, h4, h5]
        · simp [h1, h2, h3, h4]
      · simp [h1, h2, h3]
    · simp [h1, h2]
  · simp [h1]

theorem eql_dsc (a b : Dsc) (w : World) : (binOp .eql 60 (dv a) (dv b)).run Try.prog w = .ok (.bool (eqD a b)) w := by
  have := eqD_run a b w
  unfold dv at *
  rw [run_eql_struct, this]
  rfl
theorem neq_dsc (a b : Dsc) (w : World) : (binOp .neq 60 (dv a) (dv b)).run Try.prog w = .ok (.bool (!eqD a b)) w := by
  have := eqD_run a b w
  unfold dv at *
  rw [run_neq_struct, this]
  rfl

theorem mayD_lvl {l : Int} {d : Dsc} (h : mayD l d = true) : lvlB l = true ∧ d.kind ≠ 5 := by
  simp only [mayD, Bool.and_eq_true, decide_eq_true_eq] at h
  obtain ⟨⟨l0, l3, f0, f1, s0, s1⟩, h⟩ := h
  refine ⟨by unfold lvlB; rw [decide_eq_true_iff]; exact ⟨l0, l3⟩, fun h5 => ?_⟩
  rw [h5] at h
  simp at h

set_option maxHeartbeats 1000000 in
theorem encode_lvl (l : Int) (d : Dsc) (w : World) (h : lvlB l = false) :
    Calls Try.prog 22 #[.int .i64 l, dv d] w fun e w' => e = .returned (.tuple #[.int .u64 0, .iface 27 (.int .i64 1)]) ∧ Below w.heap.size w w' := by
  unfold dv
  go_enter Try.func22, Try.ntmps22
  go_wp2_with (go_at_call 37; refine (mayLevel_any _ _).mono ?_; rintro e w1 ⟨rfl, hw⟩; obtain rfl := hw.symm; clear hw)
  go_ret2
  exact ⟨rfl, (Below.refl _ _).alloc (Nat.le_refl _) _⟩

set_option maxHeartbeats 1000000 in
theorem encode_bad (l : Int) (d : Dsc) (w : World) (h : lvlB l = true) (h5 : d.kind = 5) :
    Calls Try.prog 22 #[.int .i64 l, dv d] w fun e w' => e = .returned (.tuple #[.int .u64 0, .iface 27 (.int .i64 1)]) ∧ Below w.heap.size w w' := by
  unfold dv
  go_enter Try.func22, Try.ntmps22
  go_wp2_with (go_at_call 37; refine (mayLevel_any _ _).mono ?_; rintro e w1 ⟨rfl, hw⟩; obtain rfl := hw.symm; clear hw)
  go_ret2
  exact ⟨rfl, (Below.refl _ _).alloc (Nat.le_refl _) _⟩

set_option maxHeartbeats 1000000 in
theorem encode_rest (l : Int) (d : Dsc) (w : World) (h : lvlB l = true) (h5 : d.kind ≠ 5) (x : Nat) (hX : wOfI d.kind d.frame (rightsB d.kind && !d.wr) (rightsB d.kind && !d.ex) d.sn d.fo d.so = (x : Int)) :
    Calls Try.prog 22 #[.int .i64 l, dv d] w fun e w' => e = .returned (.tuple #[if eqD (saysD l x) d then .int .u64 x else .int .u64 0, if eqD (saysD l x) d then .nilIface else .iface 27 (.int .i64 1)]) ∧ Below w.heap.size w w' := by
  have hw := wordOf_any d
  rw [hX] at hw
  have hx : x < 18446744073709551616 := by have := wOf_bd d.kind d.frame (rightsB d.kind && !d.wr) (rightsB d.kind && !d.ex) d.sn d.fo d.so; omega
  clear hX
  have hs := fun w => says_any l x w hx
  obtain ⟨r, hr⟩ : ∃ r, r = saysD l x := ⟨_, rfl⟩
  rw [← hr] at hs ⊢
  have hn := neq_dsc r d
  have h5' : (d.kind == 5) = false := by simpa using h5
  clear hr h5
  cases hq : eqD r d
  all_goals
    rw [hq] at hn
    unfold dv at *
    go_enter Try.func22, Try.ntmps22
    go_wp2_with (first
      | (go_at_call 37; refine (mayLevel_any _ _).mono ?_; rintro e w1 ⟨rfl, hw⟩; obtain rfl := hw.symm; clear hw)
      | (go_at_call 38; refine (hw _).mono ?_; rintro e w1 ⟨rfl, hb⟩; obtain ⟨hc, hf⟩ := bcell hb))
    have hz : w.heap.size < w1.heap.size := by have := hb.size; simp at this; omega
    have hb1 : Below w.heap.size w w1 := ((Below.refl _ _).alloc (Nat.le_refl _) _).trans (hb.mono (by simp))
    clear hb hw
    have k0 : w1.cell? ⟨w.heap.size, 0, none⟩ = some (.int .i64 d.kind) := by rw [hc _ _ (by simp)]; simp
    have k1 : w1.cell? ⟨w.heap.size, 1, none⟩ = some (.int .i64 d.frame) := by rw [hc _ _ (by simp)]; simp
    have k2 : w1.cell? ⟨w.heap.size, 2, none⟩ = some (.bool d.wr) := by rw [hc _ _ (by simp)]; simp
    have k3 : w1.cell? ⟨w.heap.size, 3, none⟩ = some (.bool d.ex) := by rw [hc _ _ (by simp)]; simp
    have k4 : w1.cell? ⟨w.heap.size, 4, none⟩ = some (.bool d.sn) := by rw [hc _ _ (by simp)]; simp
    have k5 : w1.cell? ⟨w.heap.size, 5, none⟩ = some (.bool d.fo) := by rw [hc _ _ (by simp)]; simp
    have k6 : w1.cell? ⟨w.heap.size, 6, none⟩ = some (.int .i64 d.so) := by rw [hc _ _ (by simp)]; simp
    clear hc hf
    go_region_held3 (fun w' => w'.cell? ⟨w.heap.size, 0, none⟩ = some (.int .i64 d.kind) ∧ w'.cell? ⟨w.heap.size, 1, none⟩ = some (.int .i64 d.frame) ∧ w'.cell? ⟨w.heap.size, 2, none⟩ = some (.bool d.wr) ∧ w'.cell? ⟨w.heap.size, 3, none⟩ = some (.bool d.ex) ∧ w'.cell? ⟨w.heap.size, 4, none⟩ = some (.bool d.sn) ∧ w'.cell? ⟨w.heap.size, 5, none⟩ = some (.bool d.fo) ∧ w'.cell? ⟨w.heap.size, 6, none⟩ = some (.int .i64 d.so)) (go_keep) (first | (go_at_call 39; refine (hs _).mono ?_; rintro e w2 ⟨rfl, hb2⟩; have hc2 : ∀ o, w2.cell? ⟨w.heap.size, o, none⟩ = w1.cell? ⟨w.heap.size, o, none⟩ := fun o => (bcell hb2).1 _ _ hz))
    go_wp2
    go_ret2
    exact ⟨rfl, hb1.drew.trans (hb2.mono (Nat.le_of_lt hz))⟩

theorem encode_yes (l : Int) (d : Dsc) (w : World) (h : mayD l d = true) :
    Calls Try.prog 22 #[.int .i64 l, dv d] w fun e w' => e = .returned (.tuple #[.int .u64 (wordD d : Nat), .nilIface]) ∧ Below w.heap.size w w' := by
  obtain ⟨hl, h5⟩ := mayD_lvl h
  obtain ⟨l0, l3⟩ := lvlB_true hl
  have hX := wOf_word l d h
  obtain ⟨h1, -⟩ := enc_iff l d (wordD d) l0 l3 h5 hX
  have := encode_rest l d w hl h5 _ hX
  rw [(h1 h).1, eqD_iff.2 rfl] at this
  exact this

theorem encode_no (l : Int) (d : Dsc) (w : World) (h : mayD l d = false) :
    Calls Try.prog 22 #[.int .i64 l, dv d] w fun e w' => e = .returned (.tuple #[.int .u64 0, .iface 27 (.int .i64 1)]) ∧ Below w.heap.size w w' := by
  cases hl : lvlB l
  · exact encode_lvl l d w hl
  by_cases h5 : d.kind = 5
  · exact encode_bad l d w hl h5
  obtain ⟨l0, l3⟩ := lvlB_true hl
  obtain ⟨x, hX⟩ := Int.eq_ofNat_of_zero_le (wOf_bd d.kind d.frame (rightsB d.kind && !d.wr) (rightsB d.kind && !d.ex) d.sn d.fo d.so).1
  obtain ⟨-, h2⟩ := enc_iff l d x l0 l3 h5 hX
  have := encode_rest l d w hl h5 x hX
  rw [eqD_false.2 (h2 h)] at this
  exact this
end Go.Proofs.Yteoblaopbhdneaa
