/- The document's pages of a list. -/
import Derived.Test.YtaeodbeodacmaaaARef
import Derived.Test.YtaeodbeodacmaaaZMake
namespace Go.Proofs.Ytaeodbeodacmaaa
open Go.RowKit

theorem rAPg.zone : ∀ i z, Try.prog.info? rAPg.t = some i → i.zero = some z → z.cells = (rAPg.cells rAPg.zero).toArray := by
  intro i z hi hz
  have h : (Try.prog.info? 41).map (fun i => i.zero) = some (some (.agg #[.bool false, .bool false, .bool false, .bool false])) := by kernel_rfl
  rw [show Try.prog.info? 41 = some i from hi, Option.map_some, hz] at h
  simp at h
  subst h
  rfl
theorem APg.kin' : Kin Try.prog rAPg 37 := APg.kin

set_option maxRecDepth 100000 in
set_option maxHeartbeats 8000000 in
theorem of_any {w : World} {ao : Option Addr} {c : Nat} {L : List AAr} (hs : Sn rAAr w ao L) (hM : MayA L) :
    Calls Try.prog 17 #[.slice ao L.length c] w fun e w' => e = .returned (.slice (some ⟨w.heap.size, 0, none⟩) 4096 4096) ∧ Row rAPg w.heap.size w' (.slice (some ⟨w.heap.size, 0, none⟩) 4096 4096) (pagesA (ownA L)) ∧ Below w.heap.size w w' := by
  have hm' : L.length ≤ 64 := hM.1
  obtain ⟨cs, hmk, hrow⟩ := run_makeR APg.kin rAPg.zone w 4096 (by unfold maxLen; omega) (by show 4 * 4096 ≤ _; omega)
  have HS : Hid (Sn rAAr w ao L) := hs
  have HN : Hid (NrmA L) := hM.2
  obtain ⟨q, hq⟩ : ∃ q, w.heap.size = q := ⟨_, rfl⟩
  have HQ : Hid (w.heap.size = q) := hq
  have HR0 : Hid (Row rAPg q (w.alloc (.cells cs 41)) (.slice (some ⟨q, 0, none⟩) 4096 4096) (pagesA (ownA (L.take 0)))) := by
    have e : pagesA (ownA (L.take 0)) = List.replicate 4096 rAPg.zero := ofF_const 4096 _
    rw [e, ← hq]
    exact hrow
  have HB0 : Hid (Below w.heap.size w (w.alloc (.cells cs 41))) := new_below _ _
  have hmk' : (Instr.makeSlice 37 (.int .i64 4096) (.int .i64 4096)).run Try.prog w = .ok (.slice (some ⟨q, 0, none⟩) 4096 4096) (w.alloc (.cells cs 41)) := by
    rw [← hq]
    exact hmk
  rw [hq]
  clear hs hM hmk hrow hq
  go_enter Try.func17, Try.ntmps17
  go_wp2_with fail
  clear hmk'
  go_loopw [4] (fun iv W => ∃ i : Nat, i ≤ L.length ∧ iv = .int .i64 i ∧ Hid (Row rAPg q W (.slice (some ⟨q, 0, none⟩) 4096 4096) (pagesA (ownA (L.take i)))) ∧ Hid (Below w.heap.size w W)) (fun iv _ => L.length - (intOf iv).toNat)
  case atStart => exact ⟨0, Nat.zero_le _, rfl, HR0, HB0⟩
  case round =>
    obtain ⟨i, hi, rfl, HR, HB⟩ := hrel
    clear HR0 HB0
    by_cases hlt : i < L.length
    · have hltz : (i : Int) < (L.length : Int) := by omega
      have hst := own_step hlt HN.out
      obtain ⟨s0, s1, s2⟩ := mem_span HN.out hlt
      have hsn : ∀ W, Below w.heap.size w W → ∃ g off, ao = some ⟨g, off, none⟩ ∧ g < w.heap.size ∧ W.cell? ⟨g, off + i * 5, none⟩ = some (.int .i64 (L.getD i AAr.zero).a) ∧ W.cell? ⟨g, off + i * 5 + 1, none⟩ = some (.int .i64 (L.getD i AAr.zero).b) ∧ W.cell? ⟨g, off + i * 5 + 2, none⟩ = some (.bool (L.getD i AAr.zero).w) ∧ W.cell? ⟨g, off + i * 5 + 3, none⟩ = some (.bool (L.getD i AAr.zero).x) ∧ W.cell? ⟨g, off + i * 5 + 4, none⟩ = some (.bool (L.getD i AAr.zero).h) := fun W hb => by
        obtain ⟨g, off, e, hg, c0⟩ := AAr.sn HS.out hlt
        obtain ⟨x0, x1, x2, x3, x4⟩ := c0
        exact ⟨g, off, e, hg, ((bcell hb).1 _ _ hg).trans x0, ((bcell hb).1 _ _ hg).trans x1, ((bcell hb).1 _ _ hg).trans x2, ((bcell hb).1 _ _ hg).trans x3, ((bcell hb).1 _ _ hg).trans x4⟩
      obtain ⟨g, off, rfl, hg, c0, c1, c2, c3, c4⟩ := hsn wr HB.out
      generalize L.getD i AAr.zero = d at *
      obtain ⟨da, db, dw, dx, dh⟩ := d
      simp only at *
      obtain ⟨a, rfl⟩ : ∃ a : Nat, da = a := ⟨da.toNat, by omega⟩
      obtain ⟨b, rfl⟩ : ∃ b : Nat, db = b := ⟨db.toNat, by omega⟩
      have HSN : Hid (∀ W, Below w.heap.size w W → W.cell? ⟨g, off + i * 5, none⟩ = some (.int .i64 (a : Int)) ∧ W.cell? ⟨g, off + i * 5 + 1, none⟩ = some (.int .i64 (b : Int)) ∧ W.cell? ⟨g, off + i * 5 + 2, none⟩ = some (.bool dw) ∧ W.cell? ⟨g, off + i * 5 + 3, none⟩ = some (.bool dx) ∧ W.cell? ⟨g, off + i * 5 + 4, none⟩ = some (.bool dh)) := fun W hb => by
        obtain ⟨g', off', e, -, h⟩ := hsn W hb
        cases e
        exact h
      have HST : Hid (∀ p, ownA (L.take (i + 1)) p = if (a : Int) ≤ p ∧ p < (b : Int) then some (dw, dx, dh) else ownA (L.take i) p) := hst
      have hab : a < b := by omega
      have hb4 : b ≤ 4096 := by omega
      have HRK : Hid (Row rAPg q wr (.slice (some ⟨q, 0, none⟩) 4096 4096) (pagesA (fun p => if (a : Int) ≤ p ∧ p < (a : Int) then some (dw, dx, dh) else ownA (L.take i) p))) := by
        rw [pages_congr (g := ownA (L.take i)) fun p _ _ => if_neg (by omega)]
        exact HR.out
      have hgq : g ≠ q := by have := HQ.out; omega
      clear hsn hst c0 c1 c2 c3 c4 s0 s1 s2 HR
      generalize ownA (L.take i) = fo at *
      have c0 := (HSN.out wr HB.out).1
      go_wp2
      go_loopw [5] (fun kv W => ∃ k : Nat, a ≤ k ∧ k ≤ b ∧ kv = .int .i64 k ∧ Hid (Row rAPg q W (.slice (some ⟨q, 0, none⟩) 4096 4096) (pagesA (fun p => if (a : Int) ≤ p ∧ p < (k : Int) then some (dw, dx, dh) else fo p))) ∧ Hid (Below w.heap.size w W)) (fun kv _ => b - (intOf kv).toNat)
      case atStart => exact ⟨a, Nat.le_refl _, Nat.le_of_lt hab, rfl, HRK, HB⟩
      case round =>
        obtain ⟨k, hk1, hk2, rfl, HK, HBK⟩ := hrel
        clear HRK HB c0
        obtain ⟨c0, c1, c2, c3, c4⟩ := HSN.out wr HBK.out
        by_cases hkb : k < b
        · have hkz : (k : Int) < (b : Int) := by omega
          have hk4 : (k : Int) < 4096 := by omega
          obtain ⟨g', e', -, -, hqw, -, -, hat⟩ := HK.out.at (show k < _ by rw [pages_len]; omega)
          cases e'
          obtain ⟨p0, p1, p2, p3⟩ := APg.at hat
          simp only [show rAPg.n = 4 from rfl] at p0 p1 p2 p3
          have hfz := fun o => HK.out.frozen o
          have HN2 : Hid (∀ W, Below wr.heap.size wr W → Row rAPg q (W.setCells q (k * 4) [.bool true, .bool dw, .bool dx, .bool dh]) (.slice (some ⟨q, 0, none⟩) 4096 4096) (pagesA (fun p => if (a : Int) ≤ p ∧ p < ((k + 1 : Nat) : Int) then some (dw, dx, dh) else fo p))) := fun W hbW => by
            have h := (HK.out.below hbW).put k (pgA (some (dw, dx, dh))) (by rw [pages_len]; omega)
            rw [pages_set] at h
            rw [pages_congr (g := fun p => if p = (k : Int) then some (dw, dx, dh) else if (a : Int) ≤ p ∧ p < (k : Int) then some (dw, dx, dh) else fo p) fun p _ _ => by
              by_cases e1 : p = (k : Int)
              · rw [if_pos e1, if_pos (by omega)]
              · rw [if_neg e1]
                by_cases e2 : (a : Int) ≤ p ∧ p < (k : Int)
                · rw [if_pos e2, if_pos (by omega)]
                · rw [if_neg e2, if_neg (by omega)]]
            exact h
          have HB2 : Hid (∀ W, Below wr.heap.size wr W → Below w.heap.size w (W.setCells q (k * 4) [.bool true, .bool dw, .bool dx, .bool dh])) := fun W hbW => (below_call' HBK.out hbW).trans ((Keeps.sets _ W q _).below (below_call' HBK.out hbW).size fun c _ e => by rw [e, ← HQ.out]; exact Nat.le_refl _)
          have hcs := fun (W : World) (o j : Nat) (v : Value) => World.cell?_of_block (w := W) (w' := W.setCell ⟨q, o, none⟩ v) (a := ⟨g, j, none⟩) (heap_setCell_other W _ g v (fun e => hgq e))
          have HD : Hid (Below wr.heap.size wr wr.drew) := (Below.refl _ _).drew
          clear hat HK HBK HSN HST
          go_wp2
          go_region_held3 (fun w' => w'.cell? ⟨g, off + i * 5 + 2, none⟩ = some (.bool dw) ∧ w'.cell? ⟨g, off + i * 5 + 3, none⟩ = some (.bool dx) ∧ w'.cell? ⟨g, off + i * 5 + 4, none⟩ = some (.bool dh)) (go_keep) (fail)
          clear c0 c1 c2 c3 c4 p0 p1 p2 p3 hcs
          go_wp2
          go_roundw
          case rel => exact ⟨k + 1, by omega, by omega, by go_num, by first | exact (HN2.out wr (Below.refl _ _)).below (below_drewN (Below.refl _ _) 1) | exact HN2.out wr (Below.refl _ _), by first | exact below_drewN (HB2.out wr (Below.refl _ _)) 1 | exact HB2.out wr (Below.refl _ _)⟩
          case measure => simp only [intOf]; omega
        · obtain rfl : k = b := by omega
          have HE : Hid (Row rAPg q wr (.slice (some ⟨q, 0, none⟩) 4096 4096) (pagesA (ownA (L.take (i + 1))))) := by
            rw [show ownA (L.take (i + 1)) = fun p => if (a : Int) ≤ p ∧ p < (k : Int) then some (dw, dx, dh) else fo p from funext HST.out]
            exact HK.out
          clear HK HSN HST
          go_wp2
          go_roundw
          case rel => exact ⟨i + 1, by omega, by go_num, HE, HBK⟩
          case measure => simp only [intOf]; omega
    · obtain rfl : i = L.length := by omega
      have HE : Hid (Row rAPg q wr (.slice (some ⟨q, 0, none⟩) 4096 4096) (pagesA (ownA L))) := by
        have := HR.out
        rwa [List.take_length] at this
      clear HR
      go_wp2
      go_ret
      exact ⟨rfl, HE.out, by rw [← HQ.out]; exact HB.out⟩
end Go.Proofs.Ytaeodbeodacmaaa
