/- What Lay lays: a memory, and the document's own, of the same words. -/
import Derived.Test.YteoblaopbhdneaaKWrd
import Derived.Test.YteoblaopbhdneaaKLoop
import Derived.Test.YteoblaopbhdneaaMRefOps
import Derived.Deep.RegionHeld3
import Derived.BigRegion
namespace Go.Proofs.Yteoblaopbhdneaa
open Go.RowKit

def LayPost (w : World) (e : Ending) (w' : World) : Prop := ∃ (n b s q cap : Nat) (R f : Nat → Nat), e = .returned (.tuple #[.pointer (some ⟨b, 0, none⟩), .slice (some ⟨q, 0, none⟩) n cap]) ∧ 1 ≤ n ∧ n ≤ 24 ∧ Mem w.heap.size w' b s n f ∧ Ref w.heap.size w' q n R f ∧ Words n f ∧ Below w.heap.size w w'

theorem words_upd {n : Nat} {f : Nat → Nat} (h : Words n f) (p v : Nat) (hv : v ≤ 18446744073709551615) : Words n (upd f p v) := by
  intro j hj
  unfold upd
  have := h j hj
  split <;> omega

/-- The words behind a Store that may be none. -/
def stF (f : Nat → Nat) (n : Nat) (a i : Int) (v : Nat) : Nat → Nat := if okP n a i then upd f (a.toNat * 8 + i.toNat) v else f
def StPost (B : Nat) (w : World) (b s n : Nat) (f : Nat → Nat) (e : Ending) (w' : World) : Prop := ∃ v, e = .returned v ∧ Mem B w' b s n f ∧ w.grownBy w' (some s)
theorem store_all {B : Nat} {w : World} {b s n : Nat} {f : Nat → Nat} (h : Mem B w b s n f) (a i : Int) (v : Nat) :
    Calls Try.prog 19 #[.pointer (some ⟨b, 0, none⟩), .int .i64 a, .int .i64 i, .int .u64 v] w (StPost B w b s n (stF f n a i v)) := by
  unfold stF
  cases hok : okP n a i
  · refine (store_no h a i v hok).mono ?_
    rintro e w' ⟨rfl, rfl⟩
    exact ⟨_, rfl, h, rfl, rfl, rfl, Nat.le_refl _, fun _ _ _ => rfl⟩
  · obtain ⟨x, y, rfl, rfl, hx, hy⟩ := okP_nat hok
    refine (store_mem h x y v hx hy).mono ?_
    rintro e w' ⟨rfl, M, G⟩
    exact ⟨_, rfl, M, G⟩

set_option maxRecDepth 100000 in
set_option maxHeartbeats 4000000 in
theorem lay_of (x : Int) (n : Nat) (ao : Option Addr) (len cap : Nat) (D : Nat → Wrd) (w : World) (hL : Lst Wrd.cells Wrd.ok 3 w ao len D) (hx : -9223372036854775808 ≤ x) (hx' : x ≤ 9223372036854775807)
    (h1 : 1 ≤ n) (h2 : n ≤ 24) (hn : x < 0 ∧ (∃ y : Int, -(x + 1) = y ∧ 0 ≤ y ∧ 1 + y % 24 = n) ∨ ¬ x < 0 ∧ 1 + x % 24 = n) :
    Calls Try.prog 12 #[.int .i64 x, .slice ao len cap] w (LayPost w) := by
  rcases hn with ⟨hn0, y, hy, hy0, hn⟩ | ⟨hn0, hn⟩
  all_goals
    go_enter Try.func12, Try.ntmps12
    go_wp2_with fail
    refine (new_yes n _ h1 (by omega)).mono ?_
    rintro e w1 ⟨b, s, rfl, M1, L1⟩
    go_wp2_with fail
    refine (refNew_any n _ h1 (by omega)).mono ?_
    rintro e w2 ⟨qr, cr, R, rfl, F2, hb⟩
    have M2 := M1.below hb
    replace F2 := F2.base L1.size
    have L2 := below_call' L1 hb
    clear hb M1 L1
    go_wp2
    go_loopw [9] (fun i W => ∃ (k : Nat) (f : Nat → Nat), k ≤ len ∧ i = .int .i64 k ∧ Mem w.heap.size W b s n f ∧ Ref w.heap.size W qr n R f ∧ Words n f ∧ Below w.heap.size w W) (fun i _ => len - (intOf i).toNat)
    case atStart => exact ⟨0, _, Nat.zero_le _, rfl, M2, F2, fun _ _ => by show 0 < 18446744073709551616; decide, L2⟩
    case round =>
      obtain ⟨k, f, hk, rfl, M, F, hf, L⟩ := hrel
      clear M2 L2 F2
      by_cases hlt' : k < len ∧ k < 200
      · obtain ⟨hlt, h200⟩ := hlt'
        obtain ⟨ba, off, rfl, hbw, hall⟩ := hL.at hlt
        obtain ⟨ok, hc⟩ := hall k hlt
        obtain ⟨_, _, ok3⟩ := ok
        have hold := fun o => L.cell (p := ⟨ba, o, none⟩) hbw
        have c0 := (hold _).trans (hc 0 (by omega))
        have c1 := (hold _).trans (hc 1 (by omega))
        have c2 := (hold _).trans (hc 2 (by omega))
        simp only [Wrd.cells, List.getElem?_cons_succ, List.getElem?_cons_zero, Nat.add_zero] at c0 c1 c2
        clear hc hall hold
        generalize (D k).fr = xa at *
        generalize (D k).pl = xi at *
        generalize (D k).wd = xv at *
        have hbW := Nat.lt_of_lt_of_le hbw L.size
        have hbs : some ba ≠ some s := fun h => by cases h; have := M.hs; omega
        have h200' : (k : Int) < 200 := by omega
        have hS := store_all M.drew xa xi xv
        go_wp2
        go_region_held3 (fun w' => w'.cell? ⟨ba, off + k * 3, none⟩ = some (.int .i64 xa) ∧ w'.cell? ⟨ba, off + k * 3 + 1, none⟩ = some (.int .i64 xi) ∧ w'.cell? ⟨ba, off + k * 3 + 2, none⟩ = some (.int .u64 xv)) (go_keep) (first | (go_at_call 19; refine hS.mono ?_; rintro e w3 ⟨vv, rfl, M3, G⟩; have hc2 : ∀ o, w3.cell? ⟨ba, o, none⟩ = wr.cell? ⟨ba, o, none⟩ := fun o => World.cell?_of_block (G.block ba hbW hbs)))
        have F3 : Ref w.heap.size w3 qr n R f := (F.drew).of_mem M.drew G
        have L3 : Below w.heap.size w w3 := below_row L.drew L.size G M.hs
        have k0 : w3.cell? ⟨ba, off + k * 3, none⟩ = some (.int .i64 xa) := by rw [hc2]; exact c0
        have k1 : w3.cell? ⟨ba, off + k * 3 + 1, none⟩ = some (.int .i64 xi) := by rw [hc2]; exact c1
        have k2 : w3.cell? ⟨ba, off + k * 3 + 2, none⟩ = some (.int .u64 xv) := by rw [hc2]; exact c2
        clear hS M F L c0 c1 c2 hc2 G
        have hh := fun w => has_any qr n cr xa xi w
        unfold stF at M3
        cases hok : okP n xa xi
        · rw [hok] at hh M3
          have HH : Hid _ := And.intro (show Mem w.heap.size w3 b s n f from M3) (And.intro F3 (And.intro hf L3))
          clear hok M3 F3 hf L3
          go_wp2_with fail
          go_quiet ((go_at_call 27; exact Calls.quiet_of_same (hh _)))
          clear hh k0 k1 k2
          go_wp2
          obtain ⟨M3, F3, hf, L3⟩ := HH.out
          go_roundw
          case rel => exact ⟨k + 1, f, by omega, by go_num, M3.drewN _, ⟨F3.hq, F3.top, F3.rows, F3.inj⟩, hf, below_drewN L3 _⟩
          case measure => simp [intOf]; omega
        · rw [hok] at hh M3
          obtain ⟨a, i, rfl, rfl, ha, hi⟩ := okP_nat hok
          replace M3 : Mem w.heap.size w3 b s n (upd f (a * 8 + i) xv) := M3
          obtain ⟨⟨ca, r1⟩, r2, r3, _⟩ := F3.rules a ha
          have r4 := r2 i hi
          have ap := apart M3 F3
          have HF := (F3.set (fun k hk => (ap.2.2 k hk).2.2) a i xv ha hi)
          have HM := (M3.kept (grown_set w3 (R a) i (.int .u64 xv)) (fun e => (ap.2.2 a ha).1 (by cases e; rfl)) (fun e => (ap.2.2 a ha).2.1 (by cases e; rfl)))
          have HL := (below_row L3 L3.size (grown_set w3 (R a) i (.int .u64 xv)) (F3.rows a ha).1)
          have HH : Hid _ := And.intro HM (And.intro HF (And.intro (words_upd hf (a * 8 + i) xv ok3) HL))
          clear r2 hok M3 F3 hf L3 ap HF HM HL
          go_wp2_with fail
          go_quiet ((go_at_call 27; exact Calls.quiet_of_same (hh _)))
          clear hh
          go_wp2
          go_big_region
          clear k0 k1 k2 r1 r3 r4
          go_wp2
          obtain ⟨M4, F4, hf, L4⟩ := HH.out
          go_roundw
          case rel => exact ⟨k + 1, _, by omega, by go_num, ⟨M4.hb, M4.hs, M4.ne, M4.ptr, M4.row⟩, ⟨F4.hq, F4.top, F4.rows, F4.inj⟩, hf, ⟨L4.os, L4.tape, L4.output, L4.size, L4.block⟩⟩
          case measure => simp [intOf]; omega
      · have hx : (k < len ∧ ¬ k < 200) ∨ ¬ k < len := by omega
        clear hlt' hL
        rcases hx with ⟨hx1, hx2⟩ | hx1
        all_goals
          have HH : Hid _ := And.intro M (And.intro F (And.intro hf L))
          clear M F hf L
          go_wp2
          go_ret2
          obtain ⟨M, F, hf, L⟩ := HH.out
          exact ⟨n, b, s, qr, cr, R, f, rfl, h1, h2, M, F, hf, L⟩

theorem lay_any (x : Int) (ao : Option Addr) (len cap : Nat) (D : Nat → Wrd) (w : World) (hL : Lst Wrd.cells Wrd.ok 3 w ao len D) (hx : -9223372036854775808 ≤ x ∧ x ≤ 9223372036854775807) :
    Calls Try.prog 12 #[.int .i64 x, .slice ao len cap] w (LayPost w) := by
  by_cases h : x < 0
  · exact lay_of x (1 + (-(x + 1)) % 24).toNat ao len cap D w hL hx.1 hx.2 (by omega) (by omega) (Or.inl ⟨h, _, rfl, by omega, by omega⟩)
  · exact lay_of x (1 + x % 24).toNat ao len cap D w hL hx.1 hx.2 (by omega) (by omega) (Or.inr ⟨h, by omega⟩)
end Go.Proofs.Yteoblaopbhdneaa
