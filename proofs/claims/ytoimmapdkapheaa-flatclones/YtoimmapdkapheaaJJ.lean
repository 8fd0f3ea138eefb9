/- Own texts, joined: FUp, FPlD. -/
import Derived.Test.YtoimmapdkapheaaJG
import Derived.Test.YtoimmapdkapheaaJH
import Derived.Test.YtoimmapdkapheaaJI
/- The document's example. -/
namespace Go.Proofs.Ytoimmapdkapheaa
set_option maxRecDepth 4000
open Go.RowKit

abbrev upZ : Wd := fun _ => none
abbrev upA : Wd := upZ.set 1 (some newS)
abbrev upS : Sp := ⟨layA newS.f 0 2 (some (true, false, false)), wdZ newS.wd 0 2⟩
abbrev upB : Wd := upA.set 1 (some upS)
abbrev upC : Wd := upB.set 1 (some ⟨upS.f, wdS upS.wd 0 3 9⟩)
abbrev upD : Wd := upC.set 2 (some ⟨upS.f, wdS upS.wd 0 3 9⟩)
abbrev upE : Wd := upD.set 2 (some ⟨upS.f, wdS (wdS upS.wd 0 3 9) 0 3 4⟩)
theorem fu_make : MakeD upZ 1 0 upA := Or.inr (Or.inr ⟨⟨by omega, by omega⟩, rfl, rfl, rfl⟩)
theorem fu_lay : LayD upA 1 0 2 (some (true, false, false)) 0 upB := by
  refine Or.inr ⟨newS, rfl, Or.inr ⟨⟨by omega, by omega, by omega⟩, layM [] 0 2 [⟨0, 2, true, false, false⟩], ?_, Or.inr ⟨by decide, rfl, rfl⟩⟩⟩
  exact (can_lay (L := []) (d := ⟨0, 2, true, false, false⟩) trivial (by decide) (by decide) (by decide)).congr fun p _ _ => rfl
theorem fu_at : AtD upB 1 0 3 0 := Or.inr ⟨upS, rfl, Or.inr (Or.inr ⟨by omega, by omega, by simp [layA], rfl⟩)⟩
theorem fu_store : StoreD upB 1 0 3 9 0 upC := Or.inr ⟨upS, (true, false, false), rfl, fu_at, rfl, Or.inr ⟨rfl, rfl, rfl⟩⟩
theorem fu_fork : ForkD upC 1 2 0 upD := Or.inr (Or.inr (Or.inr ⟨_, ⟨by omega, by omega⟩, rfl, rfl, rfl, rfl⟩))
theorem fu_store2 : StoreD upD 2 0 3 4 0 upE := Or.inr ⟨_, (true, false, false), rfl, Or.inr ⟨_, rfl, Or.inr (Or.inr ⟨by omega, by omega, by simp [layA], rfl⟩)⟩, rfl, Or.inr ⟨rfl, rfl, rfl⟩⟩
theorem fu_at2 : AtD upE 1 0 3 0 := Or.inr ⟨_, rfl, Or.inr (Or.inr ⟨by omega, by omega, by simp [layA], rfl⟩)⟩
theorem fu_load : ldV upE 1 0 3 0 = 9 := rfl

/-- A call at the program's world that has come to be. -/
theorem Bec.fcall {w W : World} {p : Nat} {A A' : Wd} {code : Int} {f : Nat} {args : Array Value} (h : Bec (fun _ => False) w (FlT p A) W)
    (k : ∀ F, (FlT p A).In F W → Calls Try.prog f args W (FlP F W p A' code)) : Calls Try.prog f args W fun e W' => e = .returned (errV code) ∧ Hid (Bec (fun _ => False) w (FlT p A') W') := by
  obtain ⟨G, h1, cl⟩ := h.next
  exact (k G h1).mono fun e w' hp => ⟨hp.1, cl hp.2⟩
theorem Bec.fload {w W : World} {p : Nat} {A : Wd} {n pg i code : Int} (h : Bec (fun _ => False) w (FlT p A) W) (hn : okI n) (hd : AtD A n pg i code) :
    Calls Try.prog 16 #[.pointer (some ⟨p, 0, none⟩), .int .i64 n, .int .i64 pg, .int .i64 i] W fun e W' => e = .returned (.tuple #[.int .u64 (ldV A n pg i code), errV code]) ∧ Hid (Bec (fun _ => False) w (FlT p A) W') := by
  obtain ⟨G, h1, -⟩ := h.next
  exact (load_any h1 hn hd).mono fun e w' hp => ⟨hp.1, h.below hp.2.out⟩
set_option maxRecDepth 100000 in
set_option maxHeartbeats 8000000 in
theorem fu_any (w : World) : Calls Try.prog 7 #[] w fun e w' => e = .returned (.bool true) ∧ Below w.heap.size w w' := by
  have hnew := new_any w
  go_enter Try.func7, Try.ntmps7
  go_wp2_with fail
  refine hnew.mono ?_
  rintro e w1 ⟨p, rfl, HB1⟩
  have H1 : Hid (Bec (fun _ => False) w (FlT p upZ) w1) := HB1
  have hc := H1.out.fcall fun F h => make_any h ⟨by omega, by omega⟩ fu_make
  clear hnew HB1
  rw [errV0] at hc
  go_wp2_with fail
  refine hc.mono ?_
  rintro e w2 ⟨rfl, H2⟩
  have hd := H2.out.fcall fun F h => map_any h ⟨by omega, by omega⟩ fu_lay
  clear hc H1
  rw [errV0] at hd
  go_wp2_with fail
  refine hd.mono ?_
  rintro e w3 ⟨rfl, H3⟩
  have hc := H3.out.fcall fun F h => stored_any h ⟨by omega, by omega⟩ (by omega) fu_store
  clear hd H2
  rw [errV0] at hc
  go_wp2_with fail
  refine hc.mono ?_
  rintro e w4 ⟨rfl, H4⟩
  have hd := H4.out.fcall fun F h => fork_any h ⟨by omega, by omega⟩ fu_fork
  clear hc H3
  rw [errV0] at hd
  go_wp2_with fail
  refine hd.mono ?_
  rintro e w5 ⟨rfl, H5⟩
  have hc := H5.out.fcall fun F h => stored_any h ⟨by omega, by omega⟩ (by omega) fu_store2
  clear hd H4
  rw [errV0] at hc
  go_wp2_with fail
  refine hc.mono ?_
  rintro e w6 ⟨rfl, H6⟩
  have hd := H6.out.fload ⟨by omega, by omega⟩ fu_at2
  clear hc H5
  rw [errV0, fu_load] at hd
  go_wp2_with fail
  refine hd.mono ?_
  rintro e w7 ⟨rfl, H7⟩
  clear hd H6
  go_wp2
  go_ret
  exact ⟨rfl, H7.out.frame⟩
end Go.Proofs.Ytoimmapdkapheaa
/- Both worlds and a deed in its box: what do and same leave. -/
namespace Go.Proofs.Ytoimmapdkapheaa
set_option maxRecDepth 4000
open Go.RowKit

def PlD (w : World) (b : Nat) (d : FDd) (p q : Nat) (W : World) : Prop := ∃ A, Bec (fun _ => False) w (Tri b d (FlT p A) (FmT q A)) W
theorem Plays.box {w W : World} {p q : Nat} (h : Plays w p q W) (d : FDd) : PlD w W.heap.size d p q (W.alloc (.cells d.arr 34)) := by
  obtain ⟨A, h⟩ := h
  exact ⟨A, h.new (box_new W _ _)⟩
section
variable {w W W' : World} {b p q : Nat} {d : FDd}
theorem PlD.drop (h : PlD w b d p q W) : Plays w p q W := by
  obtain ⟨A, h⟩ := h
  exact ⟨A, h.right⟩
theorem PlD.next (h : PlD w b d p q W) (hb : Below W.heap.size W W') : PlD w b d p q W' := by
  obtain ⟨A, h⟩ := h
  exact ⟨A, h.below hb⟩
theorem PlD.laid (h : PlD w b d p q W) : Laid W b 34 d.arr := by
  obtain ⟨A, h⟩ := h
  exact h.tri_box
theorem PlD.deed (h : PlD w b d p q W) (hok : d.ok) :
    Calls Try.prog 10 #[.pointer (some ⟨p, 0, none⟩), .pointer (some ⟨q, 0, none⟩), .agg d.arr] W fun e W' => e = .returned (.bool true) ∧ Hid (PlD w b d p q W') := by
  obtain ⟨A, h⟩ := h
  obtain ⟨G, h1, cl⟩ := (h.imp (and_comm _ _)).open
  obtain ⟨A', hd⟩ := do_any h1 hok
  exact hd.mono fun e w' hp => ⟨hp.1, A', (cl hp.2).imp (and_comm _ _)⟩
theorem Plays.same3 (h : Plays w p q W) (t : TypeId) (x y z : Int) (c : Nat) :
    Calls Try.prog 11 #[.pointer (some ⟨p, 0, none⟩), .pointer (some ⟨q, 0, none⟩), .slice (some ⟨W.heap.size, 0, none⟩) 3 c] (W.alloc (.cells #[.int .i64 x, .int .i64 y, .int .i64 z] t)) fun e W' => e = .returned (.bool true) ∧ Hid (Plays w p q W') := by
  have h' := h.next (new_below W (.cells #[.int .i64 x, .int .i64 y, .int .i64 z] t))
  obtain ⟨A, h2⟩ := h'
  obtain ⟨G, h1, -⟩ := h2.next
  have L := Laid.new W t #[.int .i64 x, .int .i64 y, .int .i64 z]
  refine (same_any (P := [x, y, z]) (cP := c) h1 (gP := W.heap.size) (by simp) (by simp) fun k hk => ?_).mono fun e w' hp => ⟨hp.1, A, h2.below hp.2.out⟩
  match k, hk with
  | 0, _ => exact L.cell 0
  | 1, _ => exact L.cell 1
  | 2, _ => exact L.cell 2
theorem Plays.same4 (h : Plays w p q W) (t : TypeId) (x y z u : Int) (c : Nat) :
    Calls Try.prog 11 #[.pointer (some ⟨p, 0, none⟩), .pointer (some ⟨q, 0, none⟩), .slice (some ⟨W.heap.size, 0, none⟩) 4 c] (W.alloc (.cells #[.int .i64 x, .int .i64 y, .int .i64 z, .int .i64 u] t)) fun e W' => e = .returned (.bool true) ∧ Hid (Below W.heap.size W W') := by
  have hb := new_below W (.cells #[.int .i64 x, .int .i64 y, .int .i64 z, .int .i64 u] t)
  obtain ⟨A, h2⟩ := h.next hb
  obtain ⟨G, h1, -⟩ := h2.next
  have L := Laid.new W t #[.int .i64 x, .int .i64 y, .int .i64 z, .int .i64 u]
  refine (same_any (P := [x, y, z, u]) (cP := c) h1 (gP := W.heap.size) (by simp) (by simp) fun k hk => ?_).mono fun e w' hp => ⟨hp.1, below_call' hb hp.2.out⟩
  match k, hk with
  | 0, _ => exact L.cell 0
  | 1, _ => exact L.cell 1
  | 2, _ => exact L.cell 2
  | 3, _ => exact L.cell 3
end
end Go.Proofs.Ytoimmapdkapheaa
