/- Run, Areas. -/
import Derived.Test.YtoimmapdkapheaaFSt
namespace Go.Proofs.Ytoimmapdkapheaa
set_option maxRecDepth 4000
open Go.RowKit

set_option maxRecDepth 100000 in
set_option maxHeartbeats 4000000 in
theorem runp_any {F : Nat → Prop} {w : World} {p : Nat} {A : Wd} {n pg code : Int} (h : (FlT p A).In F w) (hn : okI n) (hd : RunD A n pg code) :
    Calls Try.prog 32 #[.pointer (some ⟨p, 0, none⟩), .int .i64 n, .int .i64 pg] w fun e w' => e = .returned (errV code) ∧ Hid (Below w.heap.size w w') := by
  obtain ⟨⟨m, l⟩, ⟨rfl, hok⟩, h⟩ := h
  simp only at h hok hd
  have hfd := ffind_any (pg := pg) (i := 0) h hn
  rcases hd with ⟨hd, hc⟩ | ⟨s', t', hs', hd, ht', hd2⟩
  · rcases at_fd hd with ⟨-, e⟩ | ⟨e, -⟩
    · rw [e] at hfd
      have hev := errV_ne hc
      unfold rv at hfd
      clear h hok hd e hc
      go_enter Try.func32, Try.ntmps32
      go_wp2_with fail
      refine hfd.mono ?_
      rintro e w1 ⟨rfl, HB1⟩
      have HBE : Hid (Below w.heap.size w (w1.alloc (.cells #[.bool false, .bool false] 31))) := HB1.out.alloc HB1.out.size _
      clear hfd HB1
      go_wp2
      go_ret
      exact ⟨congrArg Ending.returned hev.symm, HBE⟩
    · exact absurd e hc
  · rcases at_fd hd with ⟨e, -⟩ | ⟨-, g, s, t, hx, hs, ht, hi0, hi8, e⟩
    · exact absurd rfl e
    · obtain rfl : s' = s := by rw [hs'] at hs; exact Option.some.inj hs
      obtain rfl : t' = t := by rw [ht'] at ht; exact Option.some.inj ht
      rw [e] at hfd
      unfold rv at hfd
      obtain ⟨tw, tx, th⟩ := t'
      simp only at hfd hd2
      clear h hok hd e hx hs ht hs' ht'
      rcases hd2 with ⟨rfl, rfl⟩ | ⟨rfl, rfl⟩
      all_goals
        go_enter Try.func32, Try.ntmps32
        go_wp2_with fail
        refine hfd.mono ?_
        rintro e w1 ⟨rfl, HB1⟩
        have HBE := HB1.out.alloc (a := w) HB1.out.size
        have HBH : Hid _ := HBE
        clear hfd HB1 HBE
        go_wp2
        go_ret
        exact ⟨rfl, HBH.out _⟩
/-- What Areas tells. -/
def ArP (w : World) (o : Option Sp) (e : Ending) (w' : World) : Prop := match o with
  | none => e = .returned (.tuple #[.slice none 0 0, .iface 48 (.int .i64 3)]) ∧ Hid (Below w.heap.size w w')
  | some s => ∃ ao c M, CanA s.f M ∧ M.length ≤ 64 ∧ e = .returned (.tuple #[.slice ao M.length c, .nilIface]) ∧ Hid (Row rAAr w.heap.size w' (.slice ao M.length c) M) ∧ Hid (Below w.heap.size w w')
set_option maxRecDepth 100000 in
set_option maxHeartbeats 4000000 in
theorem areas_any {F : Nat → Prop} {w : World} {p : Nat} {A : Wd} {n : Int} (h : (FlT p A).In F w) (hn : okI n) : Calls Try.prog 20 #[.pointer (some ⟨p, 0, none⟩), .int .i64 n] w (ArP w (A n)) := by
  obtain ⟨⟨m, l⟩, ⟨rfl, hok⟩, h⟩ := h
  simp only at h hok ⊢
  have hof := ofp_any (FlX.box h) (FlX.mp h) hn
  unfold lkP
  cases hx : getL l n with
  | none =>
    rw [hx] at hof
    unfold ofR at hof
    try simp only at hof
    simp only [Option.map_none]
    unfold ArP
    clear h hok hx
    go_enter Try.func20, Try.ntmps20
    go_wp2_with fail
    refine hof.mono ?_
    rintro e w1 ⟨rfl, hw⟩
    obtain rfl := hw.symm
    clear hw hof
    go_wp2
    go_ret2
    exact ⟨rfl, Below.refl _ _⟩
  | some x =>
    obtain ⟨g, s⟩ := x
    rw [hx] at hof
    unfold ofR at hof
    try simp only at hof
    simp only [Option.map_some]
    obtain ⟨G, g1⟩ := fl_see h hx
    obtain ⟨⟨v, M, wb, l0⟩, hf, g1⟩ := g1
    obtain ⟨k1, k2, k3⟩ := pgx_in g1
    try simp only at k1 k2 k3
    have c0 : w.cell? ⟨g, 0, none⟩ = some v := by rw [k1.cell]; rfl
    have hcl := clone_rAAr k2 (by have := hf.few; simp only at this; omega)
    obtain ⟨ao, cc, rfl⟩ := k2.form
    have HF : Hid _ := hf
    clear h hok hx g1 k1 k2 k3 hf
    go_enter Try.func20, Try.ntmps20
    go_wp2_with fail
    refine hof.mono ?_
    rintro e w1 ⟨rfl, hw⟩
    obtain rfl := hw.symm
    clear hw hof
    go_wp2_with fail
    refine hcl.mono ?_
    rintro e w2 ⟨v', rfl, hrow, hb⟩
    obtain ⟨ao', c', rfl⟩ := hrow.form
    have HRW : Hid _ := hrow
    have HBW : Hid _ := hb
    clear hrow hb hcl
    go_wp2
    go_ret2
    exact ⟨_, _, _, HF.out.can, HF.out.few, rfl, HRW, HBW⟩
end Go.Proofs.Ytoimmapdkapheaa
