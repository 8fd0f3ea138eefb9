/- The document's example. -/
import Derived.Test.YtoimmapdkapheaaFSt
import Derived.Test.YtoimmapdkapheaaFFk
import Derived.Test.YtoimmapdkapheaaFUm
import Derived.Test.YtoimmapdkapheaaFMap
namespace Go.Proofs.Ytoimmapdkapheaa
set_option maxRecDepth 4000
open Go.RowKit

abbrev upZ : Wd := fun _ => none
abbrev upA : Wd := upZ.set 1 (some newS)
abbrev upS : Sp := ⟨layA newS.f 0 2 (some (true, false, false)), wdZ newS.wd 0 2⟩
abbrev upB : Wd := upA.set 1 (some upS)
abbrev upC : Wd := upB.set 1 (some ⟨upS.f, wdS upS.wd 0 3 9⟩)
abbrev upD : Wd := upC.set 2 (some ⟨upS.f, wdS upS.wd 0 3 9⟩)
abbrev upE : Wd := upD.set 2 (some ⟨upS.f, wdS (wdS upS.wd 0 3 9) 0 3 4⟩)
theorem fu_make : MakeD upZ 1 0 upA := Or.inr (Or.inr ⟨⟨by omega, by omega⟩, rfl, rfl, rfl⟩)
theorem fu_lay : LayD upA 1 0 2 (some (true, false, false)) 0 upB := by
  refine Or.inr ⟨newS, rfl, Or.inr ⟨⟨by omega, by omega, by omega⟩, layM [] 0 2 [⟨0, 2, true, false, false⟩], ?_, Or.inr ⟨by decide, rfl, rfl⟩⟩⟩
  exact (can_lay (L := []) (d := ⟨0, 2, true, false, false⟩) trivial (by decide) (by decide) (by decide)).congr fun p _ _ => rfl
theorem fu_at : AtD upB 1 0 3 0 := Or.inr ⟨upS, rfl, Or.inr (Or.inr ⟨by omega, by omega, by simp [layA], rfl⟩)⟩
theorem fu_store : StoreD upB 1 0 3 9 0 upC := Or.inr ⟨upS, (true, false, false), rfl, fu_at, rfl, Or.inr ⟨rfl, rfl, rfl⟩⟩
theorem fu_fork : ForkD upC 1 2 0 upD := Or.inr (Or.inr (Or.inr ⟨_, ⟨by omega, by omega⟩, rfl, rfl, rfl, rfl⟩))
theorem fu_store2 : StoreD upD 2 0 3 4 0 upE := Or.inr ⟨_, (true, false, false), rfl, Or.inr ⟨_, rfl, Or.inr (Or.inr ⟨by omega, by omega, by simp [layA], rfl⟩)⟩, rfl, Or.inr ⟨rfl, rfl, rfl⟩⟩
theorem fu_at2 : AtD upE 1 0 3 0 := Or.inr ⟨_, rfl, Or.inr (Or.inr ⟨by omega, by omega, by simp [layA], rfl⟩)⟩
theorem fu_load : ldV upE 1 0 3 0 = 9 := rfl

/-- A call at the program's world that has come to be. -/
theorem Bec.fcall {w W : World} {p : Nat} {A A' : Wd} {code : Int} {f : Nat} {args : Array Value} (h : Bec (fun _ => False) w (FlT p A) W)
    (k : ∀ F, (FlT p A).In F W → Calls Try.prog f args W (FlP F W p A' code)) : Calls Try.prog f args W fun e W' => e = .returned (errV code) ∧ Hid (Bec (fun _ => False) w (FlT p A') W') := by
  obtain ⟨G, h1, cl⟩ := h.next
  exact (k G h1).mono fun e w' hp => ⟨hp.1, cl hp.2⟩
theorem Bec.fload {w W : World} {p : Nat} {A : Wd} {n pg i code : Int} (h : Bec (fun _ => False) w (FlT p A) W) (hn : okI n) (hd : AtD A n pg i code) :
    Calls Try.prog 16 #[.pointer (some ⟨p, 0, none⟩), .int .i64 n, .int .i64 pg, .int .i64 i] W fun e W' => e = .returned (.tuple #[.int .u64 (ldV A n pg i code), errV code]) ∧ Hid (Bec (fun _ => False) w (FlT p A) W') := by
  obtain ⟨G, h1, -⟩ := h.next
  exact (load_any h1 hn hd).mono fun e w' hp => ⟨hp.1, h.below hp.2.out⟩
set_option maxRecDepth 100000 in
set_option maxHeartbeats 8000000 in
theorem fu_any (w : World) : Calls Try.prog 7 #[] w fun e w' => e = .returned (.bool true) ∧ Below w.heap.size w w' := by
  have hnew := new_any w
  go_enter Try.func7, Try.ntmps7
  go_wp2_with fail
  refine hnew.mono ?_
  rintro e w1 ⟨p, rfl, HB1⟩
  have H1 : Hid (Bec (fun _ => False) w (FlT p upZ) w1) := HB1
  have hc := H1.out.fcall fun F h => make_any h ⟨by omega, by omega⟩ fu_make
  clear hnew HB1
  rw [errV0] at hc
  go_wp2_with fail
  refine hc.mono ?_
  rintro e w2 ⟨rfl, H2⟩
  have hd := H2.out.fcall fun F h => map_any h ⟨by omega, by omega⟩ fu_lay
  clear hc H1
  rw [errV0] at hd
  go_wp2_with fail
  refine hd.mono ?_
  rintro e w3 ⟨rfl, H3⟩
  have hc := H3.out.fcall fun F h => stored_any h ⟨by omega, by omega⟩ (by omega) fu_store
  clear hd H2
  rw [errV0] at hc
  go_wp2_with fail
  refine hc.mono ?_
  rintro e w4 ⟨rfl, H4⟩
  have hd := H4.out.fcall fun F h => fork_any h ⟨by omega, by omega⟩ fu_fork
  clear hc H3
  rw [errV0] at hd
  go_wp2_with fail
  refine hd.mono ?_
  rintro e w5 ⟨rfl, H5⟩
  have hc := H5.out.fcall fun F h => stored_any h ⟨by omega, by omega⟩ (by omega) fu_store2
  clear hd H4
  rw [errV0] at hc
  go_wp2_with fail
  refine hc.mono ?_
  rintro e w6 ⟨rfl, H6⟩
  have hd := H6.out.fload ⟨by omega, by omega⟩ fu_at2
  clear hc H5
  rw [errV0, fu_load] at hd
  go_wp2_with fail
  refine hd.mono ?_
  rintro e w7 ⟨rfl, H7⟩
  clear hd H6
  go_wp2
  go_ret
  exact ⟨rfl, H7.out.frame⟩
end Go.Proofs.Ytoimmapdkapheaa
