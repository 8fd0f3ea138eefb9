/- What walk.Walk answers where it may be asked. -/
import Derived.Test.YteoblaopbhdneaaKWalk
namespace Go.Proofs.Yteoblaopbhdneaa
open Go.RowKit

def Words (n : Nat) (f : Nat → Nat) : Prop := ∀ j, j < 8 * n → f j < 18446744073709551616
def ansF : Option Fnd → Value
  | some x => .tuple #[fv x, .nilIface]
  | none => .tuple #[fv nilF, errF]

theorem Laid.frozen {w : World} {b : Nat} {t : TypeId} {cs : Array Value} (h : Laid w b t cs) (j : Nat) : w.frozen? ⟨b, j, none⟩ = false := by
  have h' : w.heap[b]? = some (.cells cs t (0, 0)) := h
  simp [World.frozen?, h']
theorem Laid.drewN {w : World} {b : Nat} {t : TypeId} {cs : Array Value} (h : Laid w b t cs) (m : Nat) : Laid (w.drewN m) b t cs := h
def zeroF : Array Value := #[.int .i64 0, .int .i64 0, .int .i64 0, .int .i64 0, .int .i64 0, .int .i64 0, .int .i64 0, .int .i64 0, .bool false, .bool false, .bool false]
/-- What a walk asks of a Found of zeros. -/
theorem Laid.zeros {w : World} {b : Nat} {t : TypeId} (h : Laid w b t zeroF) : w.cell? ⟨b, 0, none⟩ = some (.int .i64 0) ∧ w.cell? ⟨b, 1, none⟩ = some (.int .i64 0) ∧ w.cell? ⟨b, 2, none⟩ = some (.int .i64 0) ∧ w.cell? ⟨b, 3, none⟩ = some (.int .i64 0) ∧
    w.cell? ⟨b, 4, none⟩ = some (.int .i64 0) ∧ w.cell? ⟨b, 5, none⟩ = some (.int .i64 0) ∧ w.cell? ⟨b, 6, none⟩ = some (.int .i64 0) ∧ w.cell? ⟨b, 7, none⟩ = some (.int .i64 0) ∧ w.cell? ⟨b, 8, none⟩ = some (.bool false) ∧ w.cell? ⟨b, 9, none⟩ = some (.bool false) ∧ w.cell? ⟨b, 10, none⟩ = some (.bool false) ∧ ∀ j, w.frozen? ⟨b, j, none⟩ = false :=
  ⟨h.cell 0, h.cell 1, h.cell 2, h.cell 3, h.cell 4, h.cell 5, h.cell 6, h.cell 7, h.cell 8, h.cell 9, h.cell 10, h.frozen⟩

set_option maxRecDepth 100000 in
set_option maxHeartbeats 4000000 in
theorem walk_yes {B : Nat} {w : World} {b s n : Nat} {f : Nat → Nat} (h : Mem B w b s n f) (hf : Words n f) (root page : Nat) (hr : root < n) (hp : page < 4096) :
    Calls Try.prog 13 #[.pointer (some ⟨b, 0, none⟩), .int .i64 root, .int .i64 page] w fun e w' => e = .returned (ansF (walkF n f root page)) ∧ Below w.heap.size w w' := by
  have h1 : Mem B (w.alloc (.cells zeroF 37)) b s n f := h.below ((Below.refl _ _).alloc (Nat.le_refl _) _)
  have hR := hasRoot_any h1 root
  rw [show okF n root = true by simp [okF]; omega] at hR
  have hP := isPage_any page
  rw [show pageB page = true by simp [pageB]; omega] at hP
  clear h
  unfold zeroF at hR h1
  go_enter Try.func13, Try.ntmps13
  go_wp2_with (first | (go_at_call 28; refine hR.mono ?_; rintro e w1 ⟨rfl, hw⟩; obtain rfl := hw.symm; clear hw) | (go_at_call 24; refine (hP _).mono ?_; rintro e w1 ⟨rfl, hw⟩; obtain rfl := hw.symm; clear hw))
  clear hR hP
  go_loopw [8, 27] (fun tab lev W => ∃ l t : Nat, l ≤ 4 ∧ tab = .int .i64 t ∧ lev = .int .i64 l ∧ walkN n f page (4 - l) t = walkF n f root page ∧ Mem B W b s n f ∧ Laid W w.heap.size 37 zeroF ∧ Below w.heap.size w W) (fun _ i _ => 4 - (intOf i).toNat)
  case atStart => exact ⟨0, root, by omega, rfl, rfl, rfl, h1, Laid.new w _ _, (Below.refl _ _).alloc (Nat.le_refl _) _⟩
  case round =>
    obtain ⟨l, t, hl, rfl, rfl, heq, M, Z, L⟩ := hrel
    clear h1
    have HE : Hid _ := heq
    clear heq
    by_cases hlt : l < 4
    · have hPl := fun w => placeOf_at l page w (by omega) hp
      have hd := dig_lt l page
      obtain ⟨q, hq⟩ : ∃ q, q = dig l page := ⟨_, rfl⟩
      rw [← hq] at hPl hd
      have HQ : Hid _ := hq
      clear hq
      go_wp2_with fail
      refine (hPl _).mono ?_
      rintro e w1 ⟨rfl, m, hw⟩
      have M1 : Mem B w1 b s n f := by rw [hw]; exact M.drewN m
      have Z1 : Laid w1 w.heap.size 37 zeroF := by rw [hw]; exact Z
      have L1 : Below w.heap.size w w1 := by rw [hw]; exact below_drewN L m
      clear hw M Z L hPl
      by_cases ht : t < n
      · go_wp2_with fail
        refine (load_yes M1 t q ht hd).mono ?_
        rintro e w2 ⟨rfl, rfl⟩
        have hx : f (t * 8 + q) < 18446744073709551616 := hf _ (by omega)
        have hD := fun w => decode_yes l (f (t * 8 + q)) w hx (by simp [lvlB]; omega)
        have hfr := says_frames l (f (t * 8 + q))
        obtain ⟨f0, f1, -⟩ := hfr
        have HO : Hid ((saysD l (f (t * 8 + q))).kind = 1 → walkN n f page (3 - l) (saysD l (f (t * 8 + q))).frame.toNat = walkF n f root page) := by
          intro h1
          rw [← HE.out, show 4 - l = (3 - l) + 1 by omega]
          rw [HQ.out] at h1 ⊢
          exact (walkN_on ht (by omega) h1).symm
        have HN : Hid ((saysD l (f (t * 8 + q))).kind ≠ 1 → walkF n f root page = some (endF (saysD l (f (t * 8 + q))) l t q page)) := by
          intro h1
          rw [← HE.out, show 4 - l = (3 - l) + 1 by omega]
          rw [HQ.out] at h1 ⊢
          exact walkN_end ht (by omega) h1
        generalize saysD l (f (t * 8 + q)) = d at *
        generalize f (t * 8 + q) = x at *
        clear HE
        go_wp2_with fail
        refine (hD _).mono ?_
        rintro e w2 ⟨rfl, hb⟩
        have M2 := M1.below hb
        have Z2 := Z1.below hb
        have L2 := below_call' L1 hb
        clear hb M1 Z1 L1 hD
        unfold dv
        by_cases h1 : d.kind = 1
        · have e1 := HO.out h1
          obtain ⟨fr, hfr⟩ : ∃ fr : Nat, d.frame = fr := ⟨d.frame.toNat, by omega⟩
          rw [hfr] at e1
          have E1 : Hid _ := e1
          clear e1 HO HN
          go_wp2
          go_roundw
          case rel => exact ⟨l + 1, fr, by omega, rfl, by go_num, by rw [← E1.out, Int.toNat_natCast, show 4 - (l + 1) = 3 - l by omega], M2.below ((Below.refl _ _).alloc (Nat.le_refl _) _), Z2.below ((Below.refl _ _).alloc (Nat.le_refl _) _), L2.alloc L2.size _⟩
          case measure => simp [intOf]; omega
        · have e1 := HN.out h1
          have E1 : Hid _ := e1
          clear e1 HO HN
          have hW := fun w => withFrame_any d l t q page w hp f0 f1
          have h1' : (d.kind != 1) = true := by simpa using h1
          clear h1
          obtain ⟨r, hr⟩ : ∃ r, r = endF d l t q page := ⟨_, rfl⟩
          rw [← hr] at hW
          have ER : Hid _ := hr
          clear hr
          unfold fv dv headF at hW
          simp only at hW
          go_wp2_with fail
          refine (hW _).mono ?_
          rintro e w3 ⟨rfl, hb⟩
          have Z3 : Laid w3 w.heap.size 37 zeroF := (Z2.below (((Below.refl _ _).alloc (Nat.le_refl _) _).alloc (by simp) _)).below hb
          have L3 : Below w.heap.size w w3 := below_call' ((L2.alloc L2.size _).alloc (by have := L2.size; simp; omega) _) hb
          clear hb hW M2 Z2 L2
          obtain ⟨c0, c1, c2, c3, c4, c5, c6, c7, c8, c9, c10, hz⟩ := Z3.zeros
          have hlt3 := Z3.lt
          go_wp2
          refine bodyPost_ret (v := .tuple #[fv r, .nilIface]) ?_ rfl ⟨by rw [E1.out, ← ER.out]; rfl, ?_⟩
          · simp [results, Try.results13, go_sem, fv, c0, c1, c2, c3, c4, c5, c6, c7, c8, c9, c10]
          · repeat' (first | (with_reducible exact L3) | (with_reducible refine Below.setCell ?_ ?_ _) | (with_reducible exact Nat.le_refl _))
      · go_wp2_with fail
        refine (load_no M1 t q (by simp [okP]; omega)).mono ?_
        rintro e w2 ⟨rfl, rfl⟩
        have e1 : walkF n f root page = none := by rw [← HE.out, show 4 - l = (3 - l) + 1 by omega, walkN_out ht]
        have E1 : Hid _ := e1
        clear e1 HE M1
        obtain ⟨c0, c1, c2, c3, c4, c5, c6, c7, c8, c9, c10, hz⟩ := Z1.zeros
        have hlt3 := Z1.lt
        go_wp2
        refine bodyPost_ret (v := .tuple #[fv nilF, errF]) ?_ rfl ⟨by rw [E1.out]; rfl, ?_⟩
        · simp [results, Try.results13, go_sem, fv, nilF, c0, c1, c2, c3, c4, c5, c6, c7, c8, c9, c10]
        · repeat' (first | (with_reducible exact L1) | (with_reducible refine Below.setCell ?_ ?_ _) | (with_reducible exact Nat.le_refl _))
    · have e1 : walkF n f root page = none := by rw [← HE.out, show 4 - l = 0 by omega]; rfl
      have E1 : Hid _ := e1
      clear e1 HE M
      obtain rfl : l = 4 := by omega
      obtain ⟨c0, c1, c2, c3, c4, c5, c6, c7, c8, c9, c10, hz⟩ := Z.zeros
      have hlt3 := Z.lt
      go_wp2
      refine bodyPost_ret (v := .tuple #[fv nilF, errF]) ?_ rfl ⟨by rw [E1.out]; rfl, ?_⟩
      · simp [results, Try.results13, go_sem, fv, nilF, c0, c1, c2, c3, c4, c5, c6, c7, c8, c9, c10]
      · repeat' (first | (with_reducible exact L) | (with_reducible refine Below.setCell ?_ ?_ _) | (with_reducible exact Nat.le_refl _))
end Go.Proofs.Yteoblaopbhdneaa
