/- Room. -/
import Derived.Test.YtaeodbeodacmaaaAFind
namespace Go.Proofs.Ytaeodbeodacmaaa
open Go.RowKit

theorem rm_drop {n f : Int} {L : List AAr} {k : Nat} (h : k < L.length) : rmA n f (L.drop k) = if n ≤ (L.getD k AAr.zero).a - f then f else rmA n (L.getD k AAr.zero).b (L.drop (k + 1)) := by
  rw [drop_cons L h]
  rfl
/-- What Room tells of a list that may be. -/
def rmV (z : Int) : Value := if z < 0 then .tuple #[.int .i64 0, .iface 28 (.int .i64 5)] else .tuple #[.int .i64 z, .nilIface]
theorem rmV_at {z : Int} (h : 0 ≤ z) : rmV z = .tuple #[.int .i64 z, .nilIface] := if_neg (by omega)
theorem mem_span {L : List AAr} (h : NrmA L) {k : Nat} (hk : k < L.length) : 0 ≤ (L.getD k AAr.zero).a ∧ (L.getD k AAr.zero).a < (L.getD k AAr.zero).b ∧ (L.getD k AAr.zero).b ≤ 4096 := by
  rw [List.getD_eq_getElem?_getD, List.getElem?_eq_getElem hk]
  exact nrm_span h (List.getElem_mem hk)
set_option maxRecDepth 100000 in
set_option maxHeartbeats 4000000 in
theorem room_any {w : World} {ao : Option Addr} {c : Nat} {L : List AAr} (hs : Sn rAAr w ao L) (hm : L.length ≤ maxLen) (n : Int) :
    Calls Try.prog 16 #[.slice ao L.length c, .int .i64 n] w fun e w' => (((MayA L ∧ 1 ≤ n) ∧ e = .returned (rmV (rmA n 0 L))) ∨ (¬ (MayA L ∧ 1 ≤ n) ∧ e = .returned (.tuple #[.int .i64 0, .iface 28 (.int .i64 1)]))) ∧ Below w.heap.size w w' := by
  have hm' : L.length ≤ 9223372036854775807 := by unfold maxLen at hm; omega
  have hC := check_any (c := c) hs hm
  have HS : Hid (Sn rAAr w ao L) := hs
  clear hs hm
  go_enter Try.func16, Try.ntmps16
  go_wp2_with fail
  refine hC.mono ?_
  rintro e w1 ⟨h, hb⟩
  have HB1 : Hid (Below w.heap.size w w1) := hb
  clear hb hC
  rcases h with ⟨hM, rfl⟩ | ⟨hM, rfl⟩
  · have HM : Hid (MayA L) := hM
    clear hM
    by_cases hn : 1 ≤ n
    · have hn' : ¬ n < 1 := by omega
      go_wp2
      go_loopw [6, 19] (fun fv iv W => ∃ (k : Nat) (f : Int), k ≤ L.length ∧ 0 ≤ f ∧ f ≤ 4096 ∧ fv = .int .i64 f ∧ iv = .int .i64 k ∧ Hid (rmA n 0 L = rmA n f (L.drop k)) ∧ Hid (Below w.heap.size w W)) (fun _ iv _ => L.length - (intOf iv).toNat)
      case atStart => exact ⟨0, 0, Nat.zero_le _, by omega, by omega, rfl, rfl, rfl, HB1⟩
      case round =>
        obtain ⟨k, f, hk, hf0, hf1, rfl, rfl, HF, HB⟩ := hrel
        by_cases hlt : k < L.length
        · have hltz : (k : Int) < (L.length : Int) := by omega
          have hst := rm_drop (n := n) (f := f) hlt
          rw [← HF.out] at hst
          have HBA : Hid (Below w.heap.size w (wr.alloc (.cells (L.getD k AAr.zero).arr 32))) := HB.out.alloc HB.out.size _
          obtain ⟨s0, s1, s2⟩ := mem_span HM.out.2 hlt
          obtain ⟨g, off, rfl, hg, c0, c1, c2, c3, c4⟩ := AAr.sn (HS.out.below HB.out) hlt
          generalize L.getD k AAr.zero = d at *
          clear HB
          obtain ⟨da, db, dw, dx, dh⟩ := d
          unfold AAr.arr at *
          simp only at *
          have hwr : IntKind.i64.wrap (da - f) = da - f := by rw [IntKind.wrap_i64]; omega
          by_cases t1 : n ≤ da - f
          · rw [if_pos t1] at hst
            have HR : Hid (rmA n 0 L = f) := hst
            clear hst HF
            go_wp2
            go_ret2
            exact ⟨Or.inl ⟨by first | exact ⟨HM.out, hn⟩ | exact HM.out, congrArg Ending.returned ((rmV_at hf0).symm.trans (congrArg rmV HR.out.symm))⟩, HBA.out⟩
          · rw [if_neg t1] at hst
            have HR : Hid (rmA n 0 L = rmA n db (L.drop (k + 1))) := hst
            clear hst HF
            go_wp2
            go_roundw
            case rel => exact ⟨k + 1, db, by omega, by omega, s2, rfl, by go_num, HR, HBA⟩
            case measure => simp only [intOf]; omega
        · obtain rfl : k = L.length := by omega
          have hR : rmA n 0 L = if 4096 - f < n then -1 else f := by
            have := HF.out
            rwa [List.drop_length] at this
          have hwr : IntKind.i64.wrap (4096 - f) = 4096 - f := by rw [IntKind.wrap_i64]; omega
          by_cases t1 : 4096 - f < n
          · rw [if_pos t1] at hR
            have HR : Hid (rmA n 0 L = -1) := hR
            clear hR HF
            go_wp2
            go_ret2
            exact ⟨Or.inl ⟨by first | exact ⟨HM.out, hn⟩ | exact HM.out, congrArg Ending.returned (congrArg rmV HR.out.symm)⟩, HB.out⟩
          · rw [if_neg t1] at hR
            have HR : Hid (rmA n 0 L = f) := hR
            clear hR HF
            go_wp2
            go_ret2
            exact ⟨Or.inl ⟨by first | exact ⟨HM.out, hn⟩ | exact HM.out, congrArg Ending.returned ((rmV_at hf0).symm.trans (congrArg rmV HR.out.symm))⟩, HB.out⟩
    · have hn' : n < 1 := by omega
      have HN : Hid (¬ 1 ≤ n) := hn
      clear hn
      go_wp2
      go_ret2
      exact ⟨Or.inr ⟨fun h => by have h1 := HN.out; have h2 := h.2; omega, rfl⟩, HB1.out⟩
  · have HM : Hid (¬ MayA L) := hM
    clear hM
    go_wp2
    go_ret2
    exact ⟨Or.inr ⟨fun h => HM.out h.1, rfl⟩, HB1.out⟩
end Go.Proofs.Ytaeodbeodacmaaa
