/- Fill, whatever is filled in; the statements' common head of layer 5. -/
import Derived.Test.YtpkagigjcnjlpaaEFill2
namespace Go.Proofs.Ytpkagigjcnjlpaa
open Go.RowKit

def fL (l : List Ent) (x : Ent) : List Ent := if mayB x then fillL l x else l
def fK (l : List Ent) (k : Bool) (x : Ent) : Bool := if mayB x then fillK l k x else k
def fR (x : Ent) : Value := if mayB x then .nilIface else errArg

theorem fill_any {B : Nat} {w : World} {p : Nat} {v : Value} {l : List Ent} {k : Bool} (b : Buf B w p v l k) (hBw : B ≤ w.heap.size) (x : Ent) (hx : x.ok) :
    Calls Try.prog 17 #[.pointer (some ⟨p, 0, none⟩), ev x] w (LetPost B w p v (fL l x) (fK l k x) (fR x)) := by
  unfold fL fK fR
  cases hm : mayB x with
  | false =>
    refine (fill_no p x w hm).mono ?_
    rintro e w' ⟨rfl, hb⟩
    exact ⟨rfl, v, b.below hb, Step.of_below hb p v⟩
  | true =>
    simp only [if_true]
    unfold fillL fillK
    cases hh : hasB l x with
    | true =>
      refine (fill_has b x hm hh).mono ?_
      rintro e w' ⟨rfl, hb⟩
      exact ⟨rfl, v, b.below hb, Step.of_below hb p v⟩
    | false => exact fill_new b hBw x hm hx.2.2.2.2 hh

def e1 : Ent := ⟨0, 8, 0, 5, false, false⟩
def e2 : Ent := ⟨0, 8, 3, 8, false, false⟩
theorem e1_may : mayB e1 = true := by decide
theorem e2_may : mayB e2 = true := by decide
theorem up_list : fR e1 = .nilIface ∧ fR e2 = .nilIface ∧ fK (fL [] e1) (fK [] false e1) e2 = true := ⟨by unfold fR; rw [if_pos e1_may], by unfold fR; rw [if_pos e2_may], by decide⟩

set_option maxHeartbeats 1000000 in
theorem up_any (w : World) :
    Calls Try.prog 10 #[] w fun e w' => e = .returned (.bool true) ∧ Below w.heap.size w w' := by
  obtain ⟨r1, r2, r3⟩ := up_list
  have ok1 : e1.ok := by unfold Ent.ok e1; simp
  have ok2 : e2.ok := by unfold Ent.ok e2; simp
  go_enter Try.func10, Try.ntmps10
  go_wp2_with fail
  refine (new_any _).mono ?_
  rintro e w1 ⟨rfl, b1, L1⟩
  have hF := fill_any b1 L1.size e1 ok1
  rw [r1] at hF
  unfold e1 ev at hF
  simp only at hF
  go_wp2_with fail
  refine hF.mono ?_
  rintro e w2 ⟨rfl, v2, b2, S2⟩
  have L2 := L1.trans (S2.below b1 L1.size)
  clear hF
  have hF := fill_any b2 L2.size e2 ok2
  rw [r2] at hF
  have HK : Hid _ := r3
  unfold e2 ev at hF
  simp only at hF
  clear r1 r2 r3 ok1 ok2
  go_wp2_with fail
  refine hF.mono ?_
  rintro e w3 ⟨rfl, v3, b3, S3⟩
  have L3 := L2.trans (S3.below b2 L2.size)
  have hB := broken_any b3
  have HK' := HK.out
  unfold e1 e2 at HK'
  rw [HK'] at hB
  clear hF HK HK'
  go_wp2_with (go_at_call 28; refine hB.mono ?_; rintro e w4 ⟨rfl, hw⟩; obtain rfl := hw.symm; clear hw)
  go_ret
  exact ⟨rfl, L3⟩
end Go.Proofs.Ytpkagigjcnjlpaa
