/- tlb.New, Broken, Entries, Find, Evict. -/
import Derived.Test.YtpkagigjcnjlpaaEHas
namespace Go.Proofs.Ytpkagigjcnjlpaa
open Go.RowKit

theorem Own.form {B : Nat} {w : World} {v : Value} {l : List Ent} (h : Own B w v l) : ∃ ao c, v = .slice ao l.length c := by
  rcases h.cases' with ⟨rfl, rfl⟩ | ⟨g, c, cur, rfl, _⟩
  · exact ⟨_, _, rfl⟩
  · exact ⟨_, _, rfl⟩

theorem new_any (w : World) :
    Calls Try.prog 15 #[] w fun e w' => e = .returned (.pointer (some ⟨w.heap.size, 0, none⟩)) ∧ Buf w.heap.size w' w.heap.size (.slice none 0 0) [] false ∧ Below w.heap.size w w' := by
  go_enter Try.func15, Try.ntmps15
  go_wp2
  go_ret
  exact ⟨rfl, ⟨Nat.le_refl _, Laid.new w _ _, World.ownsRow_nil _ _ _ _, by simp, by simp⟩, (Below.refl _ _).alloc (Nat.le_refl _) _⟩

theorem broken_any {B : Nat} {w : World} {p : Nat} {v : Value} {l : List Ent} {k : Bool} (b : Buf B w p v l k) :
    Calls Try.prog 28 #[.pointer (some ⟨p, 0, none⟩)] w fun e w' => e = .returned (.bool k) ∧ w' = w := by
  obtain ⟨-, b1⟩ := b.cells
  clear b
  go_enter Try.func28, Try.ntmps28
  go_wp2
  go_ret
  exact ⟨rfl, rfl⟩

theorem entries_any {B : Nat} {w : World} {p : Nat} {v : Value} {l : List Ent} {k : Bool} (b : Buf B w p v l k) :
    Calls Try.prog 27 #[.pointer (some ⟨p, 0, none⟩)] w (ClonePost w l) := by
  obtain ⟨b0, -⟩ := b.cells
  have hc := clone_any b.row b.len
  clear b
  go_enter Try.func27, Try.ntmps27
  go_wp2_with (go_at_call 40; refine hc.mono ?_; rintro e w1 ⟨v', rfl, h1, h2⟩)
  go_ret
  exact ⟨v', rfl, h1, h2⟩

/-- The first one of a page. -/
def fndE (l : List Ent) (asid page : Int) : Ent := (l.find? fun x => isB x asid page).getD Ent.zero
def fndB (l : List Ent) (asid page : Int) : Bool := (l.find? fun x => isB x asid page).isSome
theorem fnd_none {l : List Ent} {asid page : Int} (h : ∀ x ∈ l, isB x asid page = false) : fndE l asid page = Ent.zero ∧ fndB l asid page = false := by
  have : (l.find? fun x => isB x asid page) = none := by
    rw [List.find?_eq_none]
    intro x hx
    rw [h x hx]
    simp
  unfold fndE fndB
  rw [this]
  exact ⟨rfl, rfl⟩
theorem fnd_at {l : List Ent} {asid page : Int} {k : Nat} (hk : k < l.length) (h : isB (l.getD k Ent.zero) asid page = true) (ha : ∀ x ∈ l.take k, isB x asid page = false) : fndE l asid page = l.getD k Ent.zero ∧ fndB l asid page = true := by
  have : (l.find? fun x => isB x asid page) = some (l.getD k Ent.zero) := by
    have e : l = l.take k ++ (l.getD k Ent.zero :: l.drop (k + 1)) := by
      rw [List.getD_eq_getElem?_getD, List.getElem?_eq_getElem hk]
      simp
    conv => lhs; rw [e]
    rw [List.find?_append, List.find?_eq_none.2 (fun x hx => by rw [ha x hx]; simp)]
    simp only [List.find?_cons, h]
    rfl
  unfold fndE fndB
  rw [this]
  exact ⟨rfl, rfl⟩

set_option maxRecDepth 100000 in
set_option maxHeartbeats 4000000 in
theorem find_any {B : Nat} {w : World} {p : Nat} {v : Value} {l : List Ent} {k : Bool} (b : Buf B w p v l k) (asid page : Int) :
    Calls Try.prog 24 #[.pointer (some ⟨p, 0, none⟩), .int .i64 asid, .int .i64 page] w fun e w' => e = .returned (.tuple #[ev (fndE l asid page), .bool (fndB l asid page)]) ∧ Below w.heap.size w w' := by
  obtain ⟨b0, -⟩ := b.cells
  have hp := b.ptr.lt
  have hlen := b.len
  have hmay := b.may
  have hrow := b.row
  clear b
  have B1 : Below w.heap.size w (w.alloc (.cells (ecells Ent.zero) 26)) := (Below.refl _ _).alloc (Nat.le_refl _) _
  have X1 := Laid.new w 26 (ecells Ent.zero)
  have H0 : Hid (Below w.heap.size w (w.alloc (.cells (ecells Ent.zero) 26)) ∧ Laid (w.alloc (.cells (ecells Ent.zero) 26)) w.heap.size 26 (ecells Ent.zero)) := And.intro B1 X1
  have HM : Hid _ := hmay
  have hne : p ≠ w.heap.size := by omega
  obtain ⟨ao, c, rfl⟩ := hrow.form
  have HR : Hid (Own B w (.slice ao l.length c) l) := hrow
  clear B1 X1 hmay hrow
  go_enter Try.func24, Try.ntmps24
  go_wp2_with fail
  go_loopw [9, 15] (fun _ i W => ∃ j : Nat, j ≤ l.length ∧ i = .int .i64 j ∧ Hid (∀ y ∈ l.take j, isB y asid page = false) ∧ Hid (Laid W w.heap.size 26 (ecells Ent.zero)) ∧ Hid (Below w.heap.size w W)) (fun _ i _ => l.length - (intOf i).toNat)
  case atStart => exact ⟨0, by omega, rfl, by simp [Hid], H0.out.2, H0.out.1⟩
  case round =>
    obtain ⟨j, hj, rfl, hno, hX, L⟩ := hrel
    clear H0 b0
    by_cases hlt : j < l.length
    · have hltz : (j : Int) < (l.length : Int) := by omega
      rcases HR.out.cases' with ⟨_, rfl⟩ | ⟨g, c', cur, hv, hB, hg0, hg, hlc, hcm, hs, hh⟩
      · simp at hlt
      obtain rfl : ao = some ⟨g, 0, none⟩ := by cases hv; rfl
      obtain ⟨c0, c1, c2, c3, c4, c5⟩ := head_cells (w := wr) ((L.out.block g hg0).trans hg) (hh j hlt)
      have hI := fun w => isOf_any (l.getD j Ent.zero) asid page w (HM.out _ (mem_getD l j hlt)).1
      have hhit := fnd_at hlt (asid := asid) (page := page)
      have htk := take_snoc l j hlt
      have B2 : Below wr.heap.size wr (wr.alloc (.cells (ecells (l.getD j Ent.zero)) 26)) := (Below.refl _ _).alloc (Nat.le_refl _) _
      have X2 := Laid.new wr 26 (ecells (l.getD j Ent.zero))
      generalize l.getD j Ent.zero = y at *
      have HT : Hid _ := htk
      have HX : Hid _ := hhit
      have R2 := hX.out.below B2
      have L2 := below_call L.out L.out.size B2
      have H2 : Hid (Laid (wr.alloc (.cells (ecells y) 26)) wr.heap.size 26 (ecells y) ∧ Laid (wr.alloc (.cells (ecells y) 26)) w.heap.size 26 (ecells Ent.zero) ∧ Below w.heap.size w (wr.alloc (.cells (ecells y) 26))) := And.intro X2 (And.intro R2 L2)
      clear htk hhit hv hg hh hs hcm hlc hB X2 R2 L2 B2 hX L HR HM
      unfold ev at hI
      cases hq : isB y asid page with
      | true =>
        rw [hq] at hI
        have HP : Hid _ := hq
        clear hq
        go_wp2_with fail
        refine (hI _).mono ?_
        rintro e w1 ⟨rfl, hb⟩
        obtain ⟨X2, R2, L2⟩ := H2.out
        have L3 := below_call L2 L2.size hb
        have R3 := R2.below hb
        obtain ⟨x0, x1, x2, x3, x4, x5⟩ := (X2.below hb).ent
        obtain ⟨r0, r1, r2, r3, r4, r5⟩ := R3.ent
        have hz := R3.frozen
        have H3 : Hid (Below w.heap.size w w1) := L3
        have hlt3 := R3.lt
        clear c0 c1 c2 c3 c4 c5 hb X2 R2 L2 L3 R3 H2 hI
        go_wp2
        refine bodyPost_ret (v := .tuple #[ev y, .bool true]) ?_ rfl ⟨by rw [(HX.out HP.out hno.out).1, (HX.out HP.out hno.out).2], ?_⟩
        · simp [results, Try.results24, go_sem, ev, r0, r1, r2, r3, r4, r5]
        exact below_row H3.out H3.out.size (grown_setCells (ecells y).toList w1 w.heap.size 0) (Nat.le_refl _)
      | false =>
        rw [hq] at hI
        have HP : Hid _ := hq
        clear hq
        go_wp2_with fail
        refine (hI _).mono ?_
        rintro e w1 ⟨rfl, hb⟩
        obtain ⟨X2, R2, L2⟩ := H2.out
        have L3 := below_call L2 L2.size hb
        have R3 := R2.below hb
        have H3 : Hid (Below w.heap.size w w1 ∧ Laid w1 w.heap.size 26 (ecells Ent.zero)) := And.intro L3 R3
        clear c0 c1 c2 c3 c4 c5 hb X2 R2 L2 L3 R3 H2 hI
        go_wp2
        go_roundw
        case rel => exact ⟨j + 1, by omega, by go_num, by
          intro z hz
          rw [HT.out] at hz
          rcases List.mem_append.1 hz with h | h
          · exact hno.out z h
          · simp at h
            rw [h]
            exact HP.out, H3.out.2, H3.out.1⟩
        case measure => simp [intOf]; omega
    · obtain rfl : j = l.length := by omega
      have hltz : ¬ (l.length : Int) < (l.length : Int) := by omega
      obtain ⟨r0, r1, r2, r3, r4, r5⟩ := hX.out.ent
      have hz := hX.out.frozen
      have hN := fnd_none (l := l) (asid := asid) (page := page) (by simpa [Hid] using hno.out)
      have HN : Hid _ := hN
      have hlt3 := hX.out.lt
      clear hN hX
      go_wp2
      refine bodyPost_ret (v := .tuple #[ev Ent.zero, .bool false]) ?_ rfl ⟨by rw [HN.out.1, HN.out.2], ?_⟩
      · simp [results, Try.results24, go_sem, ev, Ent.zero, r0, r1, r2, r3, r4, r5]
      exact below_row L.out L.out.size (grown_setCells (ecells Ent.zero).toList wr w.heap.size 0) (Nat.le_refl _)
end Go.Proofs.Ytpkagigjcnjlpaa
