/- What the document's own walk answers. -/
import Derived.Test.YteoblaopbhdneaaKLoop
import Derived.Test.YteoblaopbhdneaaMRefOps
import Derived.Test.YteoblaopbhdneaaPRefDec
import Derived.Deep.Cut
import Derived.Lib.ItoaWalk
namespace Go.Proofs.Yteoblaopbhdneaa
open Go.RowKit

set_option maxHeartbeats 400000 in
theorem refPlace_at (l page : Nat) (w : World) (hl : l ≤ 3) (hp : page < 4096) :
    Calls Try.prog 11 #[.int .i64 l, .int .i64 page] w fun e w' => e = .returned (.int .i64 (dig l page)) ∧ w' = w := by
  go_enter Try.func11, Try.ntmps11
  go_wp2
  go_loop [1, 5] (fun p i => ∃ j m : Nat, l ≤ j ∧ j ≤ 3 ∧ i = .int .i64 j ∧ p = .int .i64 m ∧ m < 4096 ∧ m = page / 8 ^ (j - l)) (fun _ i => 3 - (intOf i).toNat)
  case atStart => exact ⟨l, page, Nat.le_refl _, hl, rfl, rfl, hp, by simp⟩
  case round =>
    obtain ⟨j, m, h1, h2, rfl, rfl, hm4, hm⟩ := hrel
    have HM : Hid _ := hm
    clear hm
    by_cases hj : j < 3
    · go_wp2
      go_round
      case rel => exact ⟨j + 1, m / 8, by omega, by omega, by go_num, by go_num, by omega, by rw [HM.out, Nat.div_div_eq_div_mul, show j + 1 - l = j - l + 1 by omega, Nat.pow_succ]⟩
      case measure => simp [intOf]; omega
    · obtain rfl : j = 3 := by omega
      go_wp2
      go_ret
      refine ⟨ret_int ?_, rfl⟩
      unfold dig
      rw [← HM.out]
      omega

theorem Laid.set {w : World} {b : Nat} {t : TypeId} {cs : Array Value} (h : Laid w b t cs) (a : Addr) (v : Value) (hn : b ≠ a.block) : Laid (w.setCell a v) b t cs := (heap_setCell_other w a b v hn).trans h
theorem Laid.old {w : World} {b : Nat} {t : TypeId} {cs : Array Value} (h : Laid w b t cs) (v : Obj) : Laid (w.alloc v) b t cs := h.below ((Below.refl _ _).alloc (Nat.le_refl _) _)

theorem Laid.put {w : World} {b : Nat} {t : TypeId} {cs : Array Value} (h : Laid w b t cs) (j : Nat) (v : Value) : Laid (w.setCell ⟨b, j, none⟩ v) b t (cs.setIfInBounds j v) := heap_setCell_same w b j cs _ _ h
theorem Laid.new1 (w : World) (v : Obj) (t : TypeId) (cs : Array Value) : Laid ((w.alloc v).alloc (.cells cs t)) (w.heap.size + 1) t cs := heap_alloc2_new w _ _
theorem Laid.cast {w : World} {b : Nat} {t : TypeId} {cs cs' : Array Value} (h : Laid w b t cs) (e : cs = cs') : Laid w b t cs' := e ▸ h
/-- The cells of what was found. -/
def fcells (x : Fnd) : Array Value := #[.int .i64 x.kind, .int .i64 x.level, .int .i64 x.table, .int .i64 x.place, .int .i64 x.frame, .int .i64 x.order, .int .i64 x.first, .int .i64 x.base, .bool x.wr, .bool x.ex, .bool x.sn]
theorem Laid.found {w : World} {b : Nat} {t : TypeId} {x : Fnd} (h : Laid w b t (fcells x)) : w.cell? ⟨b, 0, none⟩ = some (.int .i64 x.kind) ∧ w.cell? ⟨b, 1, none⟩ = some (.int .i64 x.level) ∧ w.cell? ⟨b, 2, none⟩ = some (.int .i64 x.table) ∧ w.cell? ⟨b, 3, none⟩ = some (.int .i64 x.place) ∧
    w.cell? ⟨b, 4, none⟩ = some (.int .i64 x.frame) ∧ w.cell? ⟨b, 5, none⟩ = some (.int .i64 x.order) ∧ w.cell? ⟨b, 6, none⟩ = some (.int .i64 x.first) ∧ w.cell? ⟨b, 7, none⟩ = some (.int .i64 x.base) ∧ w.cell? ⟨b, 8, none⟩ = some (.bool x.wr) ∧ w.cell? ⟨b, 9, none⟩ = some (.bool x.ex) ∧ w.cell? ⟨b, 10, none⟩ = some (.bool x.sn) :=
  ⟨h.cell 0, h.cell 1, h.cell 2, h.cell 3, h.cell 4, h.cell 5, h.cell 6, h.cell 7, h.cell 8, h.cell 9, h.cell 10⟩

def ansR : Option Fnd → Value
  | some x => .tuple #[fv x, .int .i64 0]
  | none => .tuple #[fv nilF, .int .i64 2]

set_option maxRecDepth 100000 in
set_option maxHeartbeats 8000000 in
theorem refAt_any {B q n : Nat} {R f : Nat → Nat} (cap : Nat) (hf : Words n f) (page : Nat) (hp : page < 4096) : ∀ (k l t : Nat) (w : World), l + k = 4 → l ≤ 3 → Ref B w q n R f →
    Calls Try.prog 31 #[.slice (some ⟨q, 0, none⟩) n cap, .int .i64 t, .int .i64 l, .int .i64 page] w fun e w' => e = .returned (ansR (walkN n f page k t)) ∧ Below w.heap.size w w' := by
  intro k
  induction k with
  | zero => intro l t w h1 h2; omega
  | succ k ih =>
    intro l t w hlk hl F
    have F1 : Ref B (w.alloc (.cells zeroF 37)) q n R f := F.below ((Below.refl _ _).alloc (Nat.le_refl _) _)
    by_cases ht : t < n
    · obtain ⟨⟨cp, r1⟩, r2, r3, -⟩ := F1.rules t ht
      have hP := fun w => refPlace_at l page w hl hp
      have hd := dig_lt l page
      have hx : f (t * 8 + dig l page) < 18446744073709551616 := hf _ (by omega)
      have r2' := r2 _ hd
      have hD := fun w => refDecode_any l (f (t * 8 + dig l page)) w hx (by simp [lvlB]; omega)
      obtain ⟨f0, f1, -⟩ := says_frames l (f (t * 8 + dig l page))
      have hk1 := (says_kinds l (f (t * 8 + dig l page))).1
      have HO : Hid ((saysD l (f (t * 8 + dig l page))).kind = 1 → walkN n f page (k + 1) t = walkN n f page k (saysD l (f (t * 8 + dig l page))).frame.toNat) := fun h1 => walkN_on ht (by omega) h1
      have HN : Hid ((saysD l (f (t * 8 + dig l page))).kind ≠ 1 → walkN n f page (k + 1) t = some (endF (saysD l (f (t * 8 + dig l page))) l t (dig l page) page)) := fun h1 => walkN_end ht (by omega) h1
      generalize saysD l (f (t * 8 + dig l page)) = d at *
      generalize dig l page = p at *
      generalize f (t * 8 + p) = x at *
      have htn : ¬ (n : Int) ≤ t := by omega
      clear r2
      unfold zeroF at r1 r2' r3
      go_enter Try.func31, Try.ntmps31
      go_wp2_with (first | (go_at_call 11; refine (hP _).mono ?_; rintro e w1 ⟨rfl, hw⟩; obtain rfl := hw.symm; clear hw))
      refine (hD _).mono ?_
      rintro e w2 ⟨rfl, hb⟩
      have F2 := F1.below hb
      have Z2 := (Laid.new w 37 zeroF).below hb
      have L2 : Below w.heap.size w w2 := below_call' ((Below.refl _ _).alloc (Nat.le_refl _) _) hb
      clear hb F F1 r1 r2' r3 hD hP
      unfold dv
      by_cases h1 : d.kind = 1
      · have e1 := HO.out h1
        obtain ⟨fr, hfr⟩ : ∃ fr : Nat, d.frame = fr := ⟨d.frame.toNat, by omega⟩
        rw [hfr, Int.toNat_natCast] at e1
        have E1 : Hid _ := e1
        have hl3 := hk1 h1
        have hR := fun w => ih (l + 1) fr w (by omega) (by omega)
        obtain ⟨r, hr⟩ : ∃ r, r = walkN n f page k fr := ⟨_, rfl⟩
        rw [← hr] at hR
        have ER : Hid _ := hr
        have hl1 : ((l + 1 : Nat) : Int) = (l : Int) + 1 := by omega
        rw [hl1] at hR
        clear e1 HO HN hr ih
        go_wp2_with fail
        refine (hR _ (F2.below ((Below.refl _ _).alloc (Nat.le_refl _) _))).mono ?_
        rintro e w3 ⟨rfl, hb⟩
        have Z3 : Laid w3 w.heap.size 37 zeroF := (Z2.below ((Below.refl _ _).alloc (Nat.le_refl _) _)).below hb
        have L3 : Below w.heap.size w w3 := below_call' (L2.alloc L2.size _) hb
        clear hb hR F2 Z2 L2
        obtain ⟨c0, c1, c2, c3, c4, c5, c6, c7, c8, c9, c10, hz⟩ := Z3.zeros
        have hlt3 := Z3.lt
        obtain ⟨y, bad, hy⟩ : ∃ (y : Fnd) (bad : Int), ansR r = .tuple #[fv y, .int .i64 bad] := by cases r <;> exact ⟨_, _, rfl⟩
        rw [hy]
        have HY : Hid _ := hy
        clear hy
        unfold fv
        go_wp2
        refine bodyPost_ret (v := .tuple #[fv y, .int .i64 bad]) ?_ rfl ⟨by rw [E1.out, ← ER.out, HY.out], ?_⟩
        · simp [results, Try.results31, go_sem, fv, c0, c1, c2, c3, c4, c5, c6, c7, c8, c9, c10]
        · repeat' (first | (with_reducible exact L3) | (with_reducible refine Below.setCell ?_ ?_ _) | (with_reducible exact Nat.le_refl _))
      · have e1 := HN.out h1
        have h1' : (d.kind == 1) = false := by simpa using h1
        obtain ⟨r, hr⟩ : ∃ r, r = endF d l t p page := ⟨_, rfl⟩
        rw [← hr] at e1
        have E1 : Hid _ := e1
        have ER : Hid _ := hr
        clear e1 HO HN h1 hk1 ih F2 hr
        have hlt3 := Z2.lt
        obtain ⟨dk, fr, wr, ex, sn, fo, so⟩ := d
        simp only at h1' f0 f1
        by_cases h3 : dk = 3
        · subst h3
          cases fo
          · have hr' : r = ⟨3, l, t, p, fr, 0, page, fr, wr, ex, sn⟩ := ER.out
            have ER' : Hid _ := hr'
            clear hr' ER
            go_upto_region 25 with fail
            go_name_world W hW
            have Z3 : Laid W w.heap.size 37 zeroF := by
              rw [← hW]
              repeat' (first | (with_reducible exact Z2) | (with_reducible refine Laid.set ?_ _ _ ?_) | (with_reducible refine Laid.old ?_ _))
              all_goals (simp; omega)
            have L3 : Below w.heap.size w W := by
              rw [← hW]
              repeat' (first | (with_reducible exact L2) | (with_reducible refine Below.setCell ?_ ?_ _) | (with_reducible refine Below.alloc ?_ ?_ _) | (with_reducible exact Nat.le_refl _))
              all_goals (have := L2.size; simp; try omega)
            have X3 : Laid W (w2.heap.size + 1) 37 (fcells r) := by
              rw [← hW, ER'.out]
              exact Laid.new1 _ _ _ _
            clear hW Z2 L2
            obtain ⟨c0, c1, c2, c3, c4, c5, c6, c7, c8, c9, c10, hz⟩ := Z3.zeros
            have hlt4 := Z3.lt
            obtain ⟨x0, x1, x2, x3, x4, x5, x6, x7, x8, x9, x10⟩ := X3.found
            go_wp2
            refine bodyPost_ret (v := .tuple #[fv r, .int .i64 0]) ?_ rfl ⟨by rw [E1.out]; rfl, ?_⟩
            · simp [results, Try.results31, go_sem, fv, c0, c1, c2, c3, c4, c5, c6, c7, c8, c9, c10]
            · repeat' (first | (with_reducible exact L3) | (with_reducible refine Below.setCell ?_ ?_ _) | (with_reducible exact Nat.le_refl _))
          · have hr' : r = ⟨3, l, t, p, fr, 2, (page / 4 * 4 : Nat), fr - (page % 4 : Nat), wr, ex, sn⟩ := ER.out
            have ER' : Hid _ := hr'
            clear hr' ER
            go_upto_region 25 with fail
            go_name_world W hW
            have Z3 : Laid W w.heap.size 37 zeroF := by
              rw [← hW]
              repeat' (first | (with_reducible exact Z2) | (with_reducible refine Laid.set ?_ _ _ ?_) | (with_reducible refine Laid.old ?_ _))
              all_goals (simp; omega)
            have L3 : Below w.heap.size w W := by
              rw [← hW]
              repeat' (first | (with_reducible exact L2) | (with_reducible refine Below.setCell ?_ ?_ _) | (with_reducible refine Below.alloc ?_ ?_ _) | (with_reducible exact Nat.le_refl _))
              all_goals (have := L2.size; simp; try omega)
            have X3 : Laid W (w2.heap.size + 1) 37 (fcells r) := by
              rw [← hW, ER'.out]
              refine (Laid.new1 _ _ _ _).cast ?_
              have q1 : (page : Int) / 4 * 4 = ((page / 4 * 4 : Nat) : Int) := by omega
              have q2 : fr - ((page : Int) - (page : Int) / 4 * 4) = fr - ((page % 4 : Nat) : Int) := by omega
              rw [q2, q1]
              rfl
            clear hW Z2 L2
            obtain ⟨c0, c1, c2, c3, c4, c5, c6, c7, c8, c9, c10, hz⟩ := Z3.zeros
            have hlt4 := Z3.lt
            obtain ⟨x0, x1, x2, x3, x4, x5, x6, x7, x8, x9, x10⟩ := X3.found
            go_wp2
            refine bodyPost_ret (v := .tuple #[fv r, .int .i64 0]) ?_ rfl ⟨by rw [E1.out]; rfl, ?_⟩
            · simp [results, Try.results31, go_sem, fv, c0, c1, c2, c3, c4, c5, c6, c7, c8, c9, c10]
            · repeat' (first | (with_reducible exact L3) | (with_reducible refine Below.setCell ?_ ?_ _) | (with_reducible exact Nat.le_refl _))
        · by_cases h2 : dk = 2
          · subst h2
            have hr' : r = ⟨2, l, t, p, fr + (page % 8 : Nat), 3, (page / 8 * 8 : Nat), fr, wr, ex, sn⟩ := ER.out
            have ER' : Hid _ := hr'
            clear hr' ER
            go_upto_region 25 with fail
            go_name_world W hW
            have Z3 : Laid W w.heap.size 37 zeroF := by
              rw [← hW]
              repeat' (first | (with_reducible exact Z2) | (with_reducible refine Laid.set ?_ _ _ ?_) | (with_reducible refine Laid.old ?_ _))
              all_goals (simp; omega)
            have L3 : Below w.heap.size w W := by
              rw [← hW]
              repeat' (first | (with_reducible exact L2) | (with_reducible refine Below.setCell ?_ ?_ _) | (with_reducible refine Below.alloc ?_ ?_ _) | (with_reducible exact Nat.le_refl _))
              all_goals (have := L2.size; simp; try omega)
            have X3 : Laid W (w2.heap.size + 1) 37 (fcells r) := by
              rw [← hW, ER'.out]
              refine (Laid.new1 _ _ _ _).cast ?_
              have q1 : (page : Int) / 8 * 8 = ((page / 8 * 8 : Nat) : Int) := by omega
              have q2 : fr + (page : Int) - (page : Int) / 8 * 8 = fr + ((page % 8 : Nat) : Int) := by omega
              rw [q2, q1]
              rfl
            clear hW Z2 L2
            obtain ⟨c0, c1, c2, c3, c4, c5, c6, c7, c8, c9, c10, hz⟩ := Z3.zeros
            have hlt4 := Z3.lt
            obtain ⟨x0, x1, x2, x3, x4, x5, x6, x7, x8, x9, x10⟩ := X3.found
            go_wp2
            refine bodyPost_ret (v := .tuple #[fv r, .int .i64 0]) ?_ rfl ⟨by rw [E1.out]; rfl, ?_⟩
            · simp [results, Try.results31, go_sem, fv, c0, c1, c2, c3, c4, c5, c6, c7, c8, c9, c10]
            · repeat' (first | (with_reducible exact L3) | (with_reducible refine Below.setCell ?_ ?_ _) | (with_reducible exact Nat.le_refl _))
          · have t3 : (dk == 3) = false := by simpa using h3
            have t2 : (dk == 2) = false := by simpa using h2
            have hr' : r = headF dk l t p := by rw [ER.out]; unfold endF headF; rw [if_neg h2, if_neg h3]
            have ER' : Hid _ := hr'
            clear hr' ER h2 h3
            go_upto_region 25 with fail
            go_name_world W hW
            have Z3 : Laid W w.heap.size 37 zeroF := by
              rw [← hW]
              repeat' (first | (with_reducible exact Z2) | (with_reducible refine Laid.set ?_ _ _ ?_) | (with_reducible refine Laid.old ?_ _))
              all_goals (simp; omega)
            have L3 : Below w.heap.size w W := by
              rw [← hW]
              repeat' (first | (with_reducible exact L2) | (with_reducible refine Below.setCell ?_ ?_ _) | (with_reducible refine Below.alloc ?_ ?_ _) | (with_reducible exact Nat.le_refl _))
              all_goals (have := L2.size; simp; try omega)
            have X3 : Laid W (w2.heap.size + 1) 37 (fcells r) := by
              rw [← hW, ER'.out]
              exact Laid.new1 _ _ _ _
            clear hW Z2 L2
            obtain ⟨c0, c1, c2, c3, c4, c5, c6, c7, c8, c9, c10, hz⟩ := Z3.zeros
            have hlt4 := Z3.lt
            obtain ⟨x0, x1, x2, x3, x4, x5, x6, x7, x8, x9, x10⟩ := X3.found
            go_wp2
            refine bodyPost_ret (v := .tuple #[fv r, .int .i64 0]) ?_ rfl ⟨by rw [E1.out]; rfl, ?_⟩
            · simp [results, Try.results31, go_sem, fv, c0, c1, c2, c3, c4, c5, c6, c7, c8, c9, c10]
            · repeat' (first | (with_reducible exact L3) | (with_reducible refine Below.setCell ?_ ?_ _) | (with_reducible exact Nat.le_refl _))
    · have htn : (n : Int) ≤ t := by omega
      have Z1 := Laid.new w 37 zeroF
      obtain ⟨c0, c1, c2, c3, c4, c5, c6, c7, c8, c9, c10, hz⟩ := Z1.zeros
      rw [walkN_out ht]
      go_enter Try.func31, Try.ntmps31
      go_wp2
      refine bodyPost_ret (v := .tuple #[fv nilF, .int .i64 2]) ?_ rfl ⟨rfl, ?_⟩
      · simp [results, Try.results31, go_sem, fv, nilF]
      · repeat' (first | (with_reducible exact Below.refl _ _) | (with_reducible refine Below.setCell ?_ ?_ _) | (with_reducible refine Below.alloc ?_ ?_ _) | (with_reducible exact Nat.le_refl _))
end Go.Proofs.Yteoblaopbhdneaa
