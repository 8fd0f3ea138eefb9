/- Own texts, joined: FDo, FDo2, FDo3, FShelf, FSp, FSame, FDeed. -/
import Derived.Test.YtoimmapdkapheaaJA
import Derived.Test.YtoimmapdkapheaaJF
import Derived.Test.YtoimmapdkapheaaJG
import Derived.Shelf.SlIterI.Nil
import Derived.Shelf.SortM.Plain
import Derived.Shelf.SortM.SortNone
import Derived.Test.YtoimmapdkapheaaProg
import Derived.Deep.CutRange
import Derived.Lib.ItoaWalk
/- A deed done to both worlds of spaces. -/
namespace Go.Proofs.Ytoimmapdkapheaa
set_option maxRecDepth 4000
open Go.RowKit

/-- A deed in a box, and both worlds. -/
def Tri (b : Nat) (d : FDd) (X Y : Th) : Th := (Th.box b 34 d.arr).and (X.and Y)
section
variable {F : Nat → Prop} {w W : World} {b : Nat} {d : FDd} {X Y : Th}
theorem tri_new (h : (X.and Y).In F w) (d : FDd) : Bec F w (Tri w.heap.size d X Y) (w.alloc (.cells d.arr 34)) := (Bec.refl h).new (box_new w _ _)
theorem Bec.fl (h : Bec F w (Tri b d X Y) W) : ∃ G, X.In G W ∧ ∀ {X' : Th} {w' : World}, Bec G W X' w' → Bec F w (Tri b d X' Y) w' := by
  obtain ⟨G, h1, h2⟩ := (h.imp (and_left _ _ _)).open
  exact ⟨G, h1, fun k => (h2 k).imp (and_left _ _ _)⟩
theorem Bec.fm (h : Bec F w (Tri b d X Y) W) : ∃ G, Y.In G W ∧ ∀ {Y' : Th} {w' : World}, Bec G W Y' w' → Bec F w (Tri b d X Y') w' := by
  obtain ⟨G, h1, h2⟩ := (h.imp (Th.le.trans (and_mono (Th.le.refl _) (and_comm _ _)) (and_left _ _ _))).open
  exact ⟨G, h1, fun k => (h2 k).imp (Th.le.trans (and_left _ _ _) (and_mono (Th.le.refl _) (and_comm _ _)))⟩
theorem Bec.tri_box (h : Bec F w (Tri b d X Y) W) : Laid W b 34 d.arr := by
  obtain ⟨_, _, ⟨_, _, _, _, h1, _⟩, _⟩ := h
  exact h1.2
end
theorem deed_cells {w : World} {b : Nat} {a0 a1 a2 a3 a4 : Int} {a5 a6 a7 : Bool} {a8 : Int} {a9 : Nat} (h : Laid w b 34 #[.int .i64 a0, .int .i64 a1, .int .i64 a2, .int .i64 a3, .int .i64 a4, .bool a5, .bool a6, .bool a7, .int .i64 a8, .int .u64 a9]) :
    w.cell? ⟨b, 0, none⟩ = some (.int .i64 a0) ∧ w.cell? ⟨b, 1, none⟩ = some (.int .i64 a1) ∧ w.cell? ⟨b, 2, none⟩ = some (.int .i64 a2) ∧ w.cell? ⟨b, 3, none⟩ = some (.int .i64 a3) ∧ w.cell? ⟨b, 4, none⟩ = some (.int .i64 a4) ∧ w.cell? ⟨b, 5, none⟩ = some (.bool a5) ∧ w.cell? ⟨b, 6, none⟩ = some (.bool a6) ∧ w.cell? ⟨b, 7, none⟩ = some (.bool a7) ∧ w.cell? ⟨b, 8, none⟩ = some (.int .i64 a8) ∧ w.cell? ⟨b, 9, none⟩ = some (.int .u64 a9) :=
  ⟨h.cell 0, h.cell 1, h.cell 2, h.cell 3, h.cell 4, h.cell 5, h.cell 6, h.cell 7, h.cell 8, h.cell 9⟩
theorem code_err (c : Int) (w : World) (h : 0 ≤ c ∧ c ≤ 8) : Calls Try.prog 23 #[errV c] w fun e w' => e = .returned (.int .i64 c) ∧ w' = w := by
  by_cases e : c = 0
  · subst e
    exact code_nil w
  · rw [errV_ne e]
    obtain ⟨k, rfl⟩ : ∃ k : Nat, c = k := ⟨c.toNat, by omega⟩
    exact code_any k w (by omega) (by omega)
theorem MakeD.code {A A' : Wd} {n c : Int} (h : MakeD A n c A') : 0 ≤ c ∧ c ≤ 8 := by
  rcases h with ⟨_, rfl, _⟩ | ⟨_, _, rfl, _⟩ | ⟨_, _, rfl, _⟩ <;> omega
theorem ForkD.code {A A' : Wd} {n m c : Int} (h : ForkD A n m c A') : 0 ≤ c ∧ c ≤ 8 := by
  rcases h with ⟨_, rfl, _⟩ | ⟨_, _, rfl, _⟩ | ⟨_, _, _, rfl, _⟩ | ⟨_, _, _, _, rfl, _⟩ <;> omega
theorem EndD.code {A A' : Wd} {n c : Int} (h : EndD A n c A') : 0 ≤ c ∧ c ≤ 8 := by
  rcases h with ⟨_, rfl, _⟩ | ⟨_, rfl, _⟩ <;> omega
theorem LayD.code {A A' : Wd} {n a b c : Int} {t : Option Pg} (h : LayD A n a b t c A') : 0 ≤ c ∧ c ≤ 8 := by
  rcases h with ⟨_, rfl, _⟩ | ⟨_, _, ⟨_, rfl, _⟩ | ⟨_, _, _, ⟨_, rfl, _⟩ | ⟨_, rfl, _⟩⟩⟩ <;> omega
theorem ChgD.code {A A' : Wd} {n a b c : Int} {t : Pg → Pg} (h : ChgD A n a b t c A') : 0 ≤ c ∧ c ≤ 8 := by
  rcases h with ⟨_, rfl, _⟩ | ⟨_, _, ⟨_, rfl, _⟩ | ⟨_, _, rfl, _⟩ | ⟨_, _, _, _, ⟨_, rfl, _⟩ | ⟨_, rfl, _⟩⟩⟩ <;> omega
theorem AtD.code {A : Wd} {n p i c : Int} (h : AtD A n p i c) : 0 ≤ c ∧ c ≤ 8 := by
  rcases h with ⟨_, rfl⟩ | ⟨_, _, ⟨_, rfl⟩ | ⟨_, _, _, rfl⟩ | ⟨_, _, _, rfl⟩⟩ <;> omega
def DoP (F : Nat → Prop) (w : World) (p q : Nat) (A' : Wd) (e : Ending) (w' : World) : Prop := e = .returned (.bool true) ∧ Bec F w ((FlT p A').and (FmT q A')) w'
def margs_make (q : Nat) (d : FDd) : Array Value := #[.pointer (some ⟨q, 0, none⟩), .int .i64 d.space]
def margs_fork (q : Nat) (d : FDd) : Array Value := #[.pointer (some ⟨q, 0, none⟩), .int .i64 d.space, .int .i64 d.other]
def margs_end (q : Nat) (d : FDd) : Array Value := #[.pointer (some ⟨q, 0, none⟩), .int .i64 d.space]
def margs_map (q : Nat) (d : FDd) : Array Value := #[.pointer (some ⟨q, 0, none⟩), .int .i64 d.space, .int .i64 d.from_, .int .i64 d.to_, .agg #[.bool true, .bool d.rt.w, .bool d.rt.x, .bool false]]
def margs_map4 (q : Nat) (d : FDd) : Array Value := margs_map q d
def margs_unmap (q : Nat) (d : FDd) : Array Value := #[.pointer (some ⟨q, 0, none⟩), .int .i64 d.space, .int .i64 d.from_, .int .i64 d.to_, .agg #[.bool false, .bool false, .bool false, .bool false]]
def margs_protect (q : Nat) (d : FDd) : Array Value := #[.pointer (some ⟨q, 0, none⟩), .int .i64 d.space, .int .i64 d.from_, .int .i64 d.to_, .bool true, .agg #[.bool d.rt.w, .bool d.rt.x], .bool false]
def margs_advise (q : Nat) (d : FDd) : Array Value := #[.pointer (some ⟨q, 0, none⟩), .int .i64 d.space, .int .i64 d.from_, .int .i64 d.to_, .bool false, .agg #[.bool d.rt.w, .bool d.rt.x], .bool d.huge]
set_option maxRecDepth 100000 in
set_option maxHeartbeats 8000000 in
theorem do_make {F : Nat → Prop} {w : World} {p q : Nat} {A A' : Wd} {d : FDd} {code : Int} (h : ((FlT p A).and (FmT q A)).In F w) (hok : d.ok) (hk : pickN d.what 11 = 0) (hd : MakeD A d.space code A') :
    Calls Try.prog 10 #[.pointer (some ⟨p, 0, none⟩), .pointer (some ⟨q, 0, none⟩), .agg d.arr] w (DoP F w p q A') := by
  have hcd : 0 ≤ code ∧ code ≤ 8 := MakeD.code hd
  have HD : Hid (MakeD A d.space code A') := hd
  have hpk := fun w => pick_any d.what 11 w hok.1.1 hok.1.2 (by omega) (by omega)
  rw [hk] at hpk
  have H0 : Hid (Bec F w (Tri w.heap.size d (FlT p A) (FmT q A)) (w.alloc (.cells d.arr 34))) := tri_new h d
  obtain ⟨F1, f1, fcl⟩ := H0.out.fl
  have hf := make_any f1 hok.2.1 HD.out
  have HF : Hid (∀ w', Bec F1 (w.alloc (.cells d.arr 34)) (FlT p A') w' → Bec F w (Tri w.heap.size d (FlT p A') (FmT q A)) w') := fun w' hb => fcl hb
  have hm : ∀ w1, Bec F w (Tri w.heap.size d (FlT p A') (FmT q A)) w1 → Calls Try.prog 26 (margs_make q d) w1 (fun e w2 => e = .returned (.int .i64 code) ∧ Hid (Bec F w (Tri w.heap.size d (FlT p A') (FmT q A')) w2)) := fun w1 hb => by
    obtain ⟨F2, m1, mcl⟩ := hb.fm
    exact (rmake_any m1 HD.out).mono fun e w2 hp => ⟨hp.1, mcl hp.2⟩
  have hce := fun w => code_err code w hcd
  obtain ⟨a0, a1, a2, a3, a4, ⟨a5, a6⟩, a7, a8, a9⟩ := d
  have HX : Hid (∀ X Y w1, Bec F w (Tri w.heap.size ⟨a0, a1, a2, a3, a4, ⟨a5, a6⟩, a7, a8, a9⟩ X Y) w1 → Laid w1 w.heap.size 34 #[.int .i64 a0, .int .i64 a1, .int .i64 a2, .int .i64 a3, .int .i64 a4, .bool a5, .bool a6, .bool a7, .int .i64 a8, .int .u64 a9]) := fun X Y w1 hb => hb.tri_box
  unfold FDd.arr at *
  unfold margs_make at hm
  simp only at *
  clear f1 fcl H0 h hd HD hok hk hcd
  go_enter Try.func10, Try.ntmps10
  go_wp2_with fail
  refine (hpk _).mono ?_
  rintro e w1 ⟨rfl, hw⟩
  obtain rfl := hw.symm
  clear hw hpk
  go_wp2_with fail
  refine hf.mono ?_
  rintro e w1 ⟨rfl, hb1⟩
  have hb1' := HF.out _ hb1
  have hm1 := hm _ hb1'
  obtain ⟨x0, x1, x2, x3, x4, x5, x6, x7, x8, x9⟩ := deed_cells (HX.out _ _ _ hb1')
  clear hb1 hb1' hm HF hf
  generalize hev : errV code = ev at *
  go_wp2_with fail
  refine hm1.mono ?_
  rintro e w2 ⟨rfl, HB2⟩
  clear hm1 x0 x1 x2 x3 x4 x5 x6 x7 x8 x9 HX
  go_wp2_with fail
  refine (hce _).mono ?_
  rintro e w3 ⟨rfl, hw⟩
  obtain rfl := hw.symm
  clear hw hce
  go_wp2
  go_ret
  exact ⟨rfl, HB2.out.right⟩
set_option maxRecDepth 100000 in
set_option maxHeartbeats 8000000 in
theorem do_fork {F : Nat → Prop} {w : World} {p q : Nat} {A A' : Wd} {d : FDd} {code : Int} (h : ((FlT p A).and (FmT q A)).In F w) (hok : d.ok) (hk : pickN d.what 11 = 1) (hd : ForkD A d.space d.other code A') :
    Calls Try.prog 10 #[.pointer (some ⟨p, 0, none⟩), .pointer (some ⟨q, 0, none⟩), .agg d.arr] w (DoP F w p q A') := by
  have hcd : 0 ≤ code ∧ code ≤ 8 := ForkD.code hd
  have HD : Hid (ForkD A d.space d.other code A') := hd
  have hpk := fun w => pick_any d.what 11 w hok.1.1 hok.1.2 (by omega) (by omega)
  rw [hk] at hpk
  have H0 : Hid (Bec F w (Tri w.heap.size d (FlT p A) (FmT q A)) (w.alloc (.cells d.arr 34))) := tri_new h d
  obtain ⟨F1, f1, fcl⟩ := H0.out.fl
  have hf := fork_any f1 hok.2.1 HD.out
  have HF : Hid (∀ w', Bec F1 (w.alloc (.cells d.arr 34)) (FlT p A') w' → Bec F w (Tri w.heap.size d (FlT p A') (FmT q A)) w') := fun w' hb => fcl hb
  have hm : ∀ w1, Bec F w (Tri w.heap.size d (FlT p A') (FmT q A)) w1 → Calls Try.prog 27 (margs_fork q d) w1 (fun e w2 => e = .returned (.int .i64 code) ∧ Hid (Bec F w (Tri w.heap.size d (FlT p A') (FmT q A')) w2)) := fun w1 hb => by
    obtain ⟨F2, m1, mcl⟩ := hb.fm
    exact (rfork_any m1 HD.out).mono fun e w2 hp => ⟨hp.1, mcl hp.2⟩
  have hce := fun w => code_err code w hcd
  obtain ⟨a0, a1, a2, a3, a4, ⟨a5, a6⟩, a7, a8, a9⟩ := d
  have HX : Hid (∀ X Y w1, Bec F w (Tri w.heap.size ⟨a0, a1, a2, a3, a4, ⟨a5, a6⟩, a7, a8, a9⟩ X Y) w1 → Laid w1 w.heap.size 34 #[.int .i64 a0, .int .i64 a1, .int .i64 a2, .int .i64 a3, .int .i64 a4, .bool a5, .bool a6, .bool a7, .int .i64 a8, .int .u64 a9]) := fun X Y w1 hb => hb.tri_box
  unfold FDd.arr at *
  unfold margs_fork at hm
  simp only at *
  clear f1 fcl H0 h hd HD hok hk hcd
  go_enter Try.func10, Try.ntmps10
  go_wp2_with fail
  refine (hpk _).mono ?_
  rintro e w1 ⟨rfl, hw⟩
  obtain rfl := hw.symm
  clear hw hpk
  go_wp2_with fail
  refine hf.mono ?_
  rintro e w1 ⟨rfl, hb1⟩
  have hb1' := HF.out _ hb1
  have hm1 := hm _ hb1'
  obtain ⟨x0, x1, x2, x3, x4, x5, x6, x7, x8, x9⟩ := deed_cells (HX.out _ _ _ hb1')
  clear hb1 hb1' hm HF hf
  generalize hev : errV code = ev at *
  go_wp2_with fail
  refine hm1.mono ?_
  rintro e w2 ⟨rfl, HB2⟩
  clear hm1 x0 x1 x2 x3 x4 x5 x6 x7 x8 x9 HX
  go_wp2_with fail
  refine (hce _).mono ?_
  rintro e w3 ⟨rfl, hw⟩
  obtain rfl := hw.symm
  clear hw hce
  go_wp2
  go_ret
  exact ⟨rfl, HB2.out.right⟩
set_option maxRecDepth 100000 in
set_option maxHeartbeats 8000000 in
theorem do_end {F : Nat → Prop} {w : World} {p q : Nat} {A A' : Wd} {d : FDd} {code : Int} (h : ((FlT p A).and (FmT q A)).In F w) (hok : d.ok) (hk : pickN d.what 11 = 2) (hd : EndD A d.space code A') :
    Calls Try.prog 10 #[.pointer (some ⟨p, 0, none⟩), .pointer (some ⟨q, 0, none⟩), .agg d.arr] w (DoP F w p q A') := by
  have hcd : 0 ≤ code ∧ code ≤ 8 := EndD.code hd
  have HD : Hid (EndD A d.space code A') := hd
  have hpk := fun w => pick_any d.what 11 w hok.1.1 hok.1.2 (by omega) (by omega)
  rw [hk] at hpk
  have H0 : Hid (Bec F w (Tri w.heap.size d (FlT p A) (FmT q A)) (w.alloc (.cells d.arr 34))) := tri_new h d
  obtain ⟨F1, f1, fcl⟩ := H0.out.fl
  have hf := end_any f1 hok.2.1 HD.out
  have HF : Hid (∀ w', Bec F1 (w.alloc (.cells d.arr 34)) (FlT p A') w' → Bec F w (Tri w.heap.size d (FlT p A') (FmT q A)) w') := fun w' hb => fcl hb
  have hm : ∀ w1, Bec F w (Tri w.heap.size d (FlT p A') (FmT q A)) w1 → Calls Try.prog 28 (margs_end q d) w1 (fun e w2 => e = .returned (.int .i64 code) ∧ Hid (Bec F w (Tri w.heap.size d (FlT p A') (FmT q A')) w2)) := fun w1 hb => by
    obtain ⟨F2, m1, mcl⟩ := hb.fm
    exact (rend_any m1 HD.out).mono fun e w2 hp => ⟨hp.1, mcl hp.2⟩
  have hce := fun w => code_err code w hcd
  obtain ⟨a0, a1, a2, a3, a4, ⟨a5, a6⟩, a7, a8, a9⟩ := d
  have HX : Hid (∀ X Y w1, Bec F w (Tri w.heap.size ⟨a0, a1, a2, a3, a4, ⟨a5, a6⟩, a7, a8, a9⟩ X Y) w1 → Laid w1 w.heap.size 34 #[.int .i64 a0, .int .i64 a1, .int .i64 a2, .int .i64 a3, .int .i64 a4, .bool a5, .bool a6, .bool a7, .int .i64 a8, .int .u64 a9]) := fun X Y w1 hb => hb.tri_box
  unfold FDd.arr at *
  unfold margs_end at hm
  simp only at *
  clear f1 fcl H0 h hd HD hok hk hcd
  go_enter Try.func10, Try.ntmps10
  go_wp2_with fail
  refine (hpk _).mono ?_
  rintro e w1 ⟨rfl, hw⟩
  obtain rfl := hw.symm
  clear hw hpk
  go_wp2_with fail
  refine hf.mono ?_
  rintro e w1 ⟨rfl, hb1⟩
  have hb1' := HF.out _ hb1
  have hm1 := hm _ hb1'
  obtain ⟨x0, x1, x2, x3, x4, x5, x6, x7, x8, x9⟩ := deed_cells (HX.out _ _ _ hb1')
  clear hb1 hb1' hm HF hf
  generalize hev : errV code = ev at *
  go_wp2_with fail
  refine hm1.mono ?_
  rintro e w2 ⟨rfl, HB2⟩
  clear hm1 x0 x1 x2 x3 x4 x5 x6 x7 x8 x9 HX
  go_wp2_with fail
  refine (hce _).mono ?_
  rintro e w3 ⟨rfl, hw⟩
  obtain rfl := hw.symm
  clear hw hce
  go_wp2
  go_ret
  exact ⟨rfl, HB2.out.right⟩
set_option maxRecDepth 100000 in
set_option maxHeartbeats 8000000 in
theorem do_map {F : Nat → Prop} {w : World} {p q : Nat} {A A' : Wd} {d : FDd} {code : Int} (h : ((FlT p A).and (FmT q A)).In F w) (hok : d.ok) (hk : pickN d.what 11 = 3) (hd : LayD A d.space d.from_ d.to_ (some (d.rt.w, d.rt.x, false)) code A') :
    Calls Try.prog 10 #[.pointer (some ⟨p, 0, none⟩), .pointer (some ⟨q, 0, none⟩), .agg d.arr] w (DoP F w p q A') := by
  have hcd : 0 ≤ code ∧ code ≤ 8 := LayD.code hd
  have HD : Hid (LayD A d.space d.from_ d.to_ (some (d.rt.w, d.rt.x, false)) code A') := hd
  have hpk := fun w => pick_any d.what 11 w hok.1.1 hok.1.2 (by omega) (by omega)
  rw [hk] at hpk
  have H0 : Hid (Bec F w (Tri w.heap.size d (FlT p A) (FmT q A)) (w.alloc (.cells d.arr 34))) := tri_new h d
  obtain ⟨F1, f1, fcl⟩ := H0.out.fl
  have hf := map_any f1 hok.2.1 HD.out
  have HF : Hid (∀ w', Bec F1 (w.alloc (.cells d.arr 34)) (FlT p A') w' → Bec F w (Tri w.heap.size d (FlT p A') (FmT q A)) w') := fun w' hb => fcl hb
  have hm : ∀ w1, Bec F w (Tri w.heap.size d (FlT p A') (FmT q A)) w1 → Calls Try.prog 29 (margs_map q d) w1 (fun e w2 => e = .returned (.int .i64 code) ∧ Hid (Bec F w (Tri w.heap.size d (FlT p A') (FmT q A')) w2)) := fun w1 hb => by
    obtain ⟨F2, m1, mcl⟩ := hb.fm
    exact (rlay_any m1 HD.out).mono fun e w2 hp => ⟨hp.1, mcl hp.2⟩
  have hce := fun w => code_err code w hcd
  obtain ⟨a0, a1, a2, a3, a4, ⟨a5, a6⟩, a7, a8, a9⟩ := d
  have HX : Hid (∀ X Y w1, Bec F w (Tri w.heap.size ⟨a0, a1, a2, a3, a4, ⟨a5, a6⟩, a7, a8, a9⟩ X Y) w1 → Laid w1 w.heap.size 34 #[.int .i64 a0, .int .i64 a1, .int .i64 a2, .int .i64 a3, .int .i64 a4, .bool a5, .bool a6, .bool a7, .int .i64 a8, .int .u64 a9]) := fun X Y w1 hb => hb.tri_box
  unfold FDd.arr at *
  unfold margs_map at hm
  simp only at *
  clear f1 fcl H0 h hd HD hok hk hcd
  go_enter Try.func10, Try.ntmps10
  go_wp2_with fail
  refine (hpk _).mono ?_
  rintro e w1 ⟨rfl, hw⟩
  obtain rfl := hw.symm
  clear hw hpk
  go_wp2_with fail
  refine hf.mono ?_
  rintro e w1 ⟨rfl, hb1⟩
  have hb1' := HF.out _ hb1
  have hm1 := hm _ hb1'
  obtain ⟨x0, x1, x2, x3, x4, x5, x6, x7, x8, x9⟩ := deed_cells (HX.out _ _ _ hb1')
  clear hb1 hb1' hm HF hf
  generalize hev : errV code = ev at *
  go_wp2_with fail
  refine hm1.mono ?_
  rintro e w2 ⟨rfl, HB2⟩
  clear hm1 x0 x1 x2 x3 x4 x5 x6 x7 x8 x9 HX
  go_wp2_with fail
  refine (hce _).mono ?_
  rintro e w3 ⟨rfl, hw⟩
  obtain rfl := hw.symm
  clear hw hce
  go_wp2
  go_ret
  exact ⟨rfl, HB2.out.right⟩
set_option maxRecDepth 100000 in
set_option maxHeartbeats 8000000 in
theorem do_map4 {F : Nat → Prop} {w : World} {p q : Nat} {A A' : Wd} {d : FDd} {code : Int} (h : ((FlT p A).and (FmT q A)).In F w) (hok : d.ok) (hk : pickN d.what 11 = 4) (hd : LayD A d.space d.from_ d.to_ (some (d.rt.w, d.rt.x, false)) code A') :
    Calls Try.prog 10 #[.pointer (some ⟨p, 0, none⟩), .pointer (some ⟨q, 0, none⟩), .agg d.arr] w (DoP F w p q A') := by
  have hcd : 0 ≤ code ∧ code ≤ 8 := LayD.code hd
  have HD : Hid (LayD A d.space d.from_ d.to_ (some (d.rt.w, d.rt.x, false)) code A') := hd
  have hpk := fun w => pick_any d.what 11 w hok.1.1 hok.1.2 (by omega) (by omega)
  rw [hk] at hpk
  have H0 : Hid (Bec F w (Tri w.heap.size d (FlT p A) (FmT q A)) (w.alloc (.cells d.arr 34))) := tri_new h d
  obtain ⟨F1, f1, fcl⟩ := H0.out.fl
  have hf := map_any f1 hok.2.1 HD.out
  have HF : Hid (∀ w', Bec F1 (w.alloc (.cells d.arr 34)) (FlT p A') w' → Bec F w (Tri w.heap.size d (FlT p A') (FmT q A)) w') := fun w' hb => fcl hb
  have hm : ∀ w1, Bec F w (Tri w.heap.size d (FlT p A') (FmT q A)) w1 → Calls Try.prog 29 (margs_map4 q d) w1 (fun e w2 => e = .returned (.int .i64 code) ∧ Hid (Bec F w (Tri w.heap.size d (FlT p A') (FmT q A')) w2)) := fun w1 hb => by
    obtain ⟨F2, m1, mcl⟩ := hb.fm
    exact (rlay_any m1 HD.out).mono fun e w2 hp => ⟨hp.1, mcl hp.2⟩
  have hce := fun w => code_err code w hcd
  obtain ⟨a0, a1, a2, a3, a4, ⟨a5, a6⟩, a7, a8, a9⟩ := d
  have HX : Hid (∀ X Y w1, Bec F w (Tri w.heap.size ⟨a0, a1, a2, a3, a4, ⟨a5, a6⟩, a7, a8, a9⟩ X Y) w1 → Laid w1 w.heap.size 34 #[.int .i64 a0, .int .i64 a1, .int .i64 a2, .int .i64 a3, .int .i64 a4, .bool a5, .bool a6, .bool a7, .int .i64 a8, .int .u64 a9]) := fun X Y w1 hb => hb.tri_box
  unfold FDd.arr at *
  unfold margs_map4 margs_map at hm
  simp only at *
  clear f1 fcl H0 h hd HD hok hk hcd
  go_enter Try.func10, Try.ntmps10
  go_wp2_with fail
  refine (hpk _).mono ?_
  rintro e w1 ⟨rfl, hw⟩
  obtain rfl := hw.symm
  clear hw hpk
  go_wp2_with fail
  refine hf.mono ?_
  rintro e w1 ⟨rfl, hb1⟩
  have hb1' := HF.out _ hb1
  have hm1 := hm _ hb1'
  obtain ⟨x0, x1, x2, x3, x4, x5, x6, x7, x8, x9⟩ := deed_cells (HX.out _ _ _ hb1')
  clear hb1 hb1' hm HF hf
  generalize hev : errV code = ev at *
  go_wp2_with fail
  refine hm1.mono ?_
  rintro e w2 ⟨rfl, HB2⟩
  clear hm1 x0 x1 x2 x3 x4 x5 x6 x7 x8 x9 HX
  go_wp2_with fail
  refine (hce _).mono ?_
  rintro e w3 ⟨rfl, hw⟩
  obtain rfl := hw.symm
  clear hw hce
  go_wp2
  go_ret
  exact ⟨rfl, HB2.out.right⟩
set_option maxRecDepth 100000 in
set_option maxHeartbeats 8000000 in
theorem do_unmap {F : Nat → Prop} {w : World} {p q : Nat} {A A' : Wd} {d : FDd} {code : Int} (h : ((FlT p A).and (FmT q A)).In F w) (hok : d.ok) (hk : pickN d.what 11 = 5) (hd : LayD A d.space d.from_ d.to_ none code A') :
    Calls Try.prog 10 #[.pointer (some ⟨p, 0, none⟩), .pointer (some ⟨q, 0, none⟩), .agg d.arr] w (DoP F w p q A') := by
  have hcd : 0 ≤ code ∧ code ≤ 8 := LayD.code hd
  have HD : Hid (LayD A d.space d.from_ d.to_ none code A') := hd
  have hpk := fun w => pick_any d.what 11 w hok.1.1 hok.1.2 (by omega) (by omega)
  rw [hk] at hpk
  have H0 : Hid (Bec F w (Tri w.heap.size d (FlT p A) (FmT q A)) (w.alloc (.cells d.arr 34))) := tri_new h d
  obtain ⟨F1, f1, fcl⟩ := H0.out.fl
  have hf := unmap_any f1 hok.2.1 HD.out
  have HF : Hid (∀ w', Bec F1 (w.alloc (.cells d.arr 34)) (FlT p A') w' → Bec F w (Tri w.heap.size d (FlT p A') (FmT q A)) w') := fun w' hb => fcl hb
  have hm : ∀ w1, Bec F w (Tri w.heap.size d (FlT p A') (FmT q A)) w1 → Calls Try.prog 29 (margs_unmap q d) w1 (fun e w2 => e = .returned (.int .i64 code) ∧ Hid (Bec F w (Tri w.heap.size d (FlT p A') (FmT q A')) w2)) := fun w1 hb => by
    obtain ⟨F2, m1, mcl⟩ := hb.fm
    exact (rlay_any m1 HD.out).mono fun e w2 hp => ⟨hp.1, mcl hp.2⟩
  have hce := fun w => code_err code w hcd
  obtain ⟨a0, a1, a2, a3, a4, ⟨a5, a6⟩, a7, a8, a9⟩ := d
  have HX : Hid (∀ X Y w1, Bec F w (Tri w.heap.size ⟨a0, a1, a2, a3, a4, ⟨a5, a6⟩, a7, a8, a9⟩ X Y) w1 → Laid w1 w.heap.size 34 #[.int .i64 a0, .int .i64 a1, .int .i64 a2, .int .i64 a3, .int .i64 a4, .bool a5, .bool a6, .bool a7, .int .i64 a8, .int .u64 a9]) := fun X Y w1 hb => hb.tri_box
  unfold FDd.arr at *
  unfold margs_unmap at hm
  simp only at *
  clear f1 fcl H0 h hd HD hok hk hcd
  go_enter Try.func10, Try.ntmps10
  go_wp2_with fail
  refine (hpk _).mono ?_
  rintro e w1 ⟨rfl, hw⟩
  obtain rfl := hw.symm
  clear hw hpk
  go_wp2_with fail
  refine hf.mono ?_
  rintro e w1 ⟨rfl, hb1⟩
  have hb1' := HF.out _ hb1
  have hm1 := hm _ hb1'
  obtain ⟨x0, x1, x2, x3, x4, x5, x6, x7, x8, x9⟩ := deed_cells (HX.out _ _ _ hb1')
  clear hb1 hb1' hm HF hf
  generalize hev : errV code = ev at *
  go_wp2_with fail
  refine hm1.mono ?_
  rintro e w2 ⟨rfl, HB2⟩
  clear hm1 x0 x1 x2 x3 x4 x5 x6 x7 x8 x9 HX
  go_wp2_with fail
  refine (hce _).mono ?_
  rintro e w3 ⟨rfl, hw⟩
  obtain rfl := hw.symm
  clear hw hce
  go_wp2
  go_ret
  exact ⟨rfl, HB2.out.right⟩
set_option maxRecDepth 100000 in
set_option maxHeartbeats 8000000 in
theorem do_protect {F : Nat → Prop} {w : World} {p q : Nat} {A A' : Wd} {d : FDd} {code : Int} (h : ((FlT p A).and (FmT q A)).In F w) (hok : d.ok) (hk : pickN d.what 11 = 6) (hd : ChgD A d.space d.from_ d.to_ (fun p => (d.rt.w, d.rt.x, p.2.2)) code A') :
    Calls Try.prog 10 #[.pointer (some ⟨p, 0, none⟩), .pointer (some ⟨q, 0, none⟩), .agg d.arr] w (DoP F w p q A') := by
  have hcd : 0 ≤ code ∧ code ≤ 8 := ChgD.code hd
  have HD : Hid (ChgD A d.space d.from_ d.to_ (fun p => (d.rt.w, d.rt.x, p.2.2)) code A') := hd
  have hpk := fun w => pick_any d.what 11 w hok.1.1 hok.1.2 (by omega) (by omega)
  rw [hk] at hpk
  have H0 : Hid (Bec F w (Tri w.heap.size d (FlT p A) (FmT q A)) (w.alloc (.cells d.arr 34))) := tri_new h d
  obtain ⟨F1, f1, fcl⟩ := H0.out.fl
  have hf := protect_any f1 hok.2.1 HD.out
  have HF : Hid (∀ w', Bec F1 (w.alloc (.cells d.arr 34)) (FlT p A') w' → Bec F w (Tri w.heap.size d (FlT p A') (FmT q A)) w') := fun w' hb => fcl hb
  have hm : ∀ w1, Bec F w (Tri w.heap.size d (FlT p A') (FmT q A)) w1 → Calls Try.prog 30 (margs_protect q d) w1 (fun e w2 => e = .returned (.int .i64 code) ∧ Hid (Bec F w (Tri w.heap.size d (FlT p A') (FmT q A')) w2)) := fun w1 hb => by
    obtain ⟨F2, m1, mcl⟩ := hb.fm
    exact (rchg_any (r := true) (x := d.rt.w) (y := d.rt.x) (z := false) m1 HD.out).mono fun e w2 hp => ⟨hp.1, mcl hp.2⟩
  have hce := fun w => code_err code w hcd
  obtain ⟨a0, a1, a2, a3, a4, ⟨a5, a6⟩, a7, a8, a9⟩ := d
  have HX : Hid (∀ X Y w1, Bec F w (Tri w.heap.size ⟨a0, a1, a2, a3, a4, ⟨a5, a6⟩, a7, a8, a9⟩ X Y) w1 → Laid w1 w.heap.size 34 #[.int .i64 a0, .int .i64 a1, .int .i64 a2, .int .i64 a3, .int .i64 a4, .bool a5, .bool a6, .bool a7, .int .i64 a8, .int .u64 a9]) := fun X Y w1 hb => hb.tri_box
  unfold FDd.arr at *
  unfold margs_protect at hm
  simp only at *
  clear f1 fcl H0 h hd HD hok hk hcd
  go_enter Try.func10, Try.ntmps10
  go_wp2_with fail
  refine (hpk _).mono ?_
  rintro e w1 ⟨rfl, hw⟩
  obtain rfl := hw.symm
  clear hw hpk
  go_wp2_with fail
  refine hf.mono ?_
  rintro e w1 ⟨rfl, hb1⟩
  have hb1' := HF.out _ hb1
  have hm1 := hm _ hb1'
  obtain ⟨x0, x1, x2, x3, x4, x5, x6, x7, x8, x9⟩ := deed_cells (HX.out _ _ _ hb1')
  clear hb1 hb1' hm HF hf
  generalize hev : errV code = ev at *
  go_wp2_with fail
  refine hm1.mono ?_
  rintro e w2 ⟨rfl, HB2⟩
  clear hm1 x0 x1 x2 x3 x4 x5 x6 x7 x8 x9 HX
  go_wp2_with fail
  refine (hce _).mono ?_
  rintro e w3 ⟨rfl, hw⟩
  obtain rfl := hw.symm
  clear hw hce
  go_wp2
  go_ret
  exact ⟨rfl, HB2.out.right⟩
set_option maxRecDepth 100000 in
set_option maxHeartbeats 8000000 in
theorem do_advise {F : Nat → Prop} {w : World} {p q : Nat} {A A' : Wd} {d : FDd} {code : Int} (h : ((FlT p A).and (FmT q A)).In F w) (hok : d.ok) (hk : pickN d.what 11 = 7) (hd : ChgD A d.space d.from_ d.to_ (fun p => (p.1, p.2.1, d.huge)) code A') :
    Calls Try.prog 10 #[.pointer (some ⟨p, 0, none⟩), .pointer (some ⟨q, 0, none⟩), .agg d.arr] w (DoP F w p q A') := by
  have hcd : 0 ≤ code ∧ code ≤ 8 := ChgD.code hd
  have HD : Hid (ChgD A d.space d.from_ d.to_ (fun p => (p.1, p.2.1, d.huge)) code A') := hd
  have hpk := fun w => pick_any d.what 11 w hok.1.1 hok.1.2 (by omega) (by omega)
  rw [hk] at hpk
  have H0 : Hid (Bec F w (Tri w.heap.size d (FlT p A) (FmT q A)) (w.alloc (.cells d.arr 34))) := tri_new h d
  obtain ⟨F1, f1, fcl⟩ := H0.out.fl
  have hf := fadvise_any f1 hok.2.1 HD.out
  have HF : Hid (∀ w', Bec F1 (w.alloc (.cells d.arr 34)) (FlT p A') w' → Bec F w (Tri w.heap.size d (FlT p A') (FmT q A)) w') := fun w' hb => fcl hb
  have hm : ∀ w1, Bec F w (Tri w.heap.size d (FlT p A') (FmT q A)) w1 → Calls Try.prog 30 (margs_advise q d) w1 (fun e w2 => e = .returned (.int .i64 code) ∧ Hid (Bec F w (Tri w.heap.size d (FlT p A') (FmT q A')) w2)) := fun w1 hb => by
    obtain ⟨F2, m1, mcl⟩ := hb.fm
    exact (rchg_any (r := false) (x := d.rt.w) (y := d.rt.x) (z := d.huge) m1 HD.out).mono fun e w2 hp => ⟨hp.1, mcl hp.2⟩
  have hce := fun w => code_err code w hcd
  obtain ⟨a0, a1, a2, a3, a4, ⟨a5, a6⟩, a7, a8, a9⟩ := d
  have HX : Hid (∀ X Y w1, Bec F w (Tri w.heap.size ⟨a0, a1, a2, a3, a4, ⟨a5, a6⟩, a7, a8, a9⟩ X Y) w1 → Laid w1 w.heap.size 34 #[.int .i64 a0, .int .i64 a1, .int .i64 a2, .int .i64 a3, .int .i64 a4, .bool a5, .bool a6, .bool a7, .int .i64 a8, .int .u64 a9]) := fun X Y w1 hb => hb.tri_box
  unfold FDd.arr at *
  unfold margs_advise at hm
  simp only at *
  clear f1 fcl H0 h hd HD hok hk hcd
  go_enter Try.func10, Try.ntmps10
  go_wp2_with fail
  refine (hpk _).mono ?_
  rintro e w1 ⟨rfl, hw⟩
  obtain rfl := hw.symm
  clear hw hpk
  go_wp2_with fail
  refine hf.mono ?_
  rintro e w1 ⟨rfl, hb1⟩
  have hb1' := HF.out _ hb1
  have hm1 := hm _ hb1'
  obtain ⟨x0, x1, x2, x3, x4, x5, x6, x7, x8, x9⟩ := deed_cells (HX.out _ _ _ hb1')
  clear hb1 hb1' hm HF hf
  generalize hev : errV code = ev at *
  go_wp2_with fail
  refine hm1.mono ?_
  rintro e w2 ⟨rfl, HB2⟩
  clear hm1 x0 x1 x2 x3 x4 x5 x6 x7 x8 x9 HX
  go_wp2_with fail
  refine (hce _).mono ?_
  rintro e w3 ⟨rfl, hw⟩
  obtain rfl := hw.symm
  clear hw hce
  go_wp2
  go_ret
  exact ⟨rfl, HB2.out.right⟩
end Go.Proofs.Ytoimmapdkapheaa
/- Run and Store done to both worlds. -/
namespace Go.Proofs.Ytoimmapdkapheaa
set_option maxRecDepth 4000
open Go.RowKit

/-- The cells on the way to a page that has something. -/
theorem page_cells {F : Nat → Prop} {w : World} {q : Nat} {v : Value} {T : Sps} (h : (FmX q v T).In F w) {i : Nat} (hi : i < T.length) {k : Nat} (hk : k < 4096) {t : Pg} (ht : (T.getD i zT).2.f k = some t) :
    ∃ g c gp cp gw cw, w.cell? ⟨q, 0, none⟩ = some (.slice (some ⟨g, 0, none⟩) T.length c) ∧ w.cell? ⟨g, i * 3 + 1, none⟩ = some (.slice (some ⟨gp, 0, none⟩) 4096 cp) ∧ w.cell? ⟨g, i * 3 + 2, none⟩ = some (.slice (some ⟨gw, 0, none⟩) 4096 cw) ∧
      w.cell? ⟨gp, k * 4 + 1, none⟩ = some (.bool t.1) ∧ w.cell? ⟨gp, k * 4 + 2, none⟩ = some (.bool t.2.1) ∧ (T.getD i zT).1.gw = gw ∧ (T.getD i zT).1.cw = cw ∧ Row rW8 0 w (.slice (some ⟨gw, 0, none⟩) 4096 cw) (wordsA (T.getD i zT).2.wd) := by
  obtain ⟨g, c, hv, hlt, hat⟩ := fm_at h hi
  obtain ⟨s1, s2⟩ := fm_see h hi
  obtain ⟨g', e', -, -, -, -, -, hat2⟩ := s1.at (show k < _ by rw [pages_len]; omega)
  cases e'
  obtain ⟨-, p1, p2, -⟩ := APg.at hat2
  rw [show rAPg.zero = APg.zero from rfl, pages_get _ (by omega), ht] at p1 p2
  exact ⟨g, c, _, _, _, _, by rw [(FmX.box h).cell, hv]; rfl, (rSp.at hat).2.1, (rSp.at hat).2.2, p1, p2, rfl, rfl, s2⟩
theorem RunD.code {A : Wd} {n p c : Int} (h : RunD A n p c) : 0 ≤ c ∧ c ≤ 8 := by
  rcases h with ⟨h, _⟩ | ⟨_, _, _, _, _, ⟨_, rfl⟩ | ⟨_, rfl⟩⟩
  · exact h.code
  · omega
  · omega
theorem StoreD.code {A A' : Wd} {n p i c : Int} {v : Nat} (h : StoreD A n p i v c A') : 0 ≤ c ∧ c ≤ 8 := by
  rcases h with ⟨h, _⟩ | ⟨_, _, _, _, _, ⟨_, rfl, _⟩ | ⟨_, rfl, _⟩⟩
  · exact h.code
  · omega
  · omega
/-- A page that has something is one. -/
theorem page_in {A : Wd} (hA : A.ok) {n : Int} {s : Sp} (hs : A n = some s) {pg : Int} {t : Pg} (ht : s.f pg = some t) : 0 ≤ pg ∧ pg < 4096 := by
  by_cases c : 0 ≤ pg ∧ pg < 4096
  · exact c
  · have := (hA n s hs).2.out pg (by omega)
    rw [ht] at this
    cases this
set_option maxRecDepth 100000 in
set_option maxHeartbeats 8000000 in
theorem do_run {F : Nat → Prop} {w : World} {p q : Nat} {A : Wd} {d : FDd} {code : Int} (h : ((FlT p A).and (FmT q A)).In F w) (hok : d.ok) (hk : pickN d.what 11 = 8) (hd : RunD A d.space d.from_ code) :
    Calls Try.prog 10 #[.pointer (some ⟨p, 0, none⟩), .pointer (some ⟨q, 0, none⟩), .agg d.arr] w (DoP F w p q A) := by
  have hcd : 0 ≤ code ∧ code ≤ 8 := RunD.code hd
  have HD : Hid (RunD A d.space d.from_ code) := hd
  have hpk := fun w => pick_any d.what 11 w hok.1.1 hok.1.2 (by omega) (by omega)
  rw [hk] at hpk
  have H0 : Hid (Bec F w (Tri w.heap.size d (FlT p A) (FmT q A)) (w.alloc (.cells d.arr 34))) := tri_new h d
  obtain ⟨F1, f1, fcl⟩ := H0.out.fl
  have hf := runp_any f1 hok.2.1 HD.out
  have hce := fun w => code_err code w hcd
  have HX : Hid (∀ w1, Below (w.alloc (.cells d.arr 34)).heap.size (w.alloc (.cells d.arr 34)) w1 → Bec F w (Tri w.heap.size d (FlT p A) (FmT q A)) w1) := fun w1 hb => H0.out.below hb
  rcases hd with ⟨hat, hc⟩ | ⟨s, t, hs, hat, ht, h2⟩
  · have hm : ∀ w1, Bec F w (Tri w.heap.size d (FlT p A) (FmT q A)) w1 → Calls Try.prog 33 #[.pointer (some ⟨q, 0, none⟩), .int .i64 d.space, .int .i64 d.from_, .int .i64 0] w1 (fun e w2 => e = .returned (.tuple #[.int .i64 0, .int .i64 code]) ∧ w2 = w1) := fun w1 hb => by
      obtain ⟨F2, ⟨⟨v, T⟩, hT, m1⟩, mcl⟩ := hb.fm
      refine (rat_any m1 hT hat).mono fun e w2 hp => ?_
      obtain ⟨rfl, ⟨_, rfl⟩ | ⟨h, _⟩⟩ := hp
      · exact ⟨rfl, rfl⟩
      · exact absurd h hc
    obtain ⟨a0, a1, a2, a3, a4, ⟨a5, a6⟩, a7, a8, a9⟩ := d
    unfold FDd.arr at *
    simp only at *
    clear f1 fcl H0 h hat HD hok hk hcd
    go_enter Try.func10, Try.ntmps10
    go_wp2_with fail
    refine (hpk _).mono ?_
    rintro e w1 ⟨rfl, hw⟩
    obtain rfl := hw.symm
    clear hw hpk
    go_wp2_with fail
    refine hf.mono ?_
    rintro e w1 ⟨rfl, hb1⟩
    have HB1 : Hid (Bec F w (Tri w.heap.size ⟨a0, a1, a2, a3, a4, ⟨a5, a6⟩, a7, a8, a9⟩ (FlT p A) (FmT q A)) w1) := HX.out _ hb1.out
    have hm1 := hm _ HB1.out
    obtain ⟨x0, x1, x2, x3, x4, x5, x6, x7, x8, x9⟩ := deed_cells HB1.out.tri_box
    clear hb1 hm hf HX
    generalize hev : errV code = ev at *
    go_wp2_with fail
    refine hm1.mono ?_
    rintro e w2 ⟨rfl, hw⟩
    obtain rfl := hw.symm
    have hc' : (code == 0) = false := by simpa using hc
    clear hw hm1 hc
    go_wp2
    go_quiet (fail)
    go_wp2_with fail
    refine (hce _).mono ?_
    rintro e w3 ⟨rfl, hw⟩
    obtain rfl := hw.symm
    clear hw hce
    go_wp2
    go_ret
    exact ⟨rfl, HB1.out.right.below (below_drewN (Below.refl _ _) _)⟩
  · have hpg := page_in (A := A) (by obtain ⟨_, ⟨_, hA⟩, _⟩ := f1; exact hA) hs ht
    have hm : ∀ w1, Bec F w (Tri w.heap.size d (FlT p A) (FmT q A)) w1 → Calls Try.prog 33 #[.pointer (some ⟨q, 0, none⟩), .int .i64 d.space, .int .i64 d.from_, .int .i64 0] w1 (fun e w2 => w2 = w1 ∧ ∃ i len g c gp cp : Nat, i < len ∧ e = .returned (.tuple #[.int .i64 i, .int .i64 0]) ∧ w1.cell? ⟨q, 0, none⟩ = some (.slice (some ⟨g, 0, none⟩) len c) ∧ w1.cell? ⟨g, i * 3 + 1, none⟩ = some (.slice (some ⟨gp, 0, none⟩) 4096 cp) ∧ w1.cell? ⟨gp, d.from_.toNat * 4 + 2, none⟩ = some (.bool t.2.1)) := fun w1 hb => by
      obtain ⟨F2, ⟨⟨v, T⟩, hT, m1⟩, mcl⟩ := hb.fm
      refine (rat_any m1 hT hat).mono fun e w2 hp => ?_
      obtain ⟨rfl, ⟨h, _⟩ | ⟨_, i, hi, hin, rfl⟩⟩ := hp
      · exact absurd rfl h
      · have e := lk_at T hT.nod i hi
        rw [hT.eq, hin, hs] at e
        have e := Option.some.inj e
        obtain ⟨k, hkk⟩ : ∃ k : Nat, d.from_ = k := ⟨d.from_.toNat, by omega⟩
        obtain ⟨g, c, gp, cp, gw, cw, c0, c1, c2, c3, c4, -⟩ := page_cells m1 hi (k := k) (by omega) (t := t) (by rw [← e, ← hkk]; exact ht)
        exact ⟨rfl, i, T.length, g, c, gp, cp, hi, rfl, c0, c1, by rw [hkk, Int.toNat_natCast]; exact c4⟩
    have hcc : code = if t.2.1 = true then 0 else 6 := by rcases h2 with ⟨h, rfl⟩ | ⟨h, rfl⟩ <;> simp [h]
    obtain ⟨a0, a1, a2, a3, a4, ⟨a5, a6⟩, a7, a8, a9⟩ := d
    unfold FDd.arr at *
    simp only at *
    obtain ⟨k, rfl⟩ : ∃ k : Nat, a3 = k := ⟨a3.toNat, by omega⟩
    have hk4 : (k : Int) < 4096 := hpg.2
    simp only [Int.toNat_natCast] at hm
    obtain ⟨t1, t2, t3⟩ := t
    simp only at *
    clear f1 fcl H0 h hat HD hok hk hcd h2 hs ht hpg
    cases t2
    all_goals
      simp only [if_true, if_false, Bool.false_eq_true] at hcc
      subst hcc
      go_enter Try.func10, Try.ntmps10
      go_wp2_with fail
      refine (hpk _).mono ?_
      rintro e w1 ⟨rfl, hw⟩
      obtain rfl := hw.symm
      clear hw hpk
      go_wp2_with fail
      refine hf.mono ?_
      rintro e w1 ⟨rfl, hb1⟩
      have HB1 : Hid (Bec F w (Tri w.heap.size ⟨a0, a1, a2, k, a4, ⟨a5, a6⟩, a7, a8, a9⟩ (FlT p A) (FmT q A)) w1) := HX.out _ hb1.out
      have hm1 := hm _ HB1.out
      obtain ⟨x0, x1, x2, x3, x4, x5, x6, x7, x8, x9⟩ := deed_cells HB1.out.tri_box
      clear hb1 hm hf HX
      generalize hev : errV _ = ev at *
      go_wp2_with fail
      refine hm1.mono ?_
      rintro e w2 ⟨hw, i, len, g, c, gp, cp, hil, rfl, c0, c1, c2⟩
      obtain rfl := hw.symm
      have hilz : (i : Int) < (len : Int) := by omega
      clear hw hm1 hil
      go_wp2
      go_quiet (fail)
      go_wp2_with fail
      refine (hce _).mono ?_
      rintro e w3 ⟨rfl, hw⟩
      obtain rfl := hw.symm
      clear hw hce
      go_wp2
      go_ret
      exact ⟨rfl, HB1.out.right.below (below_drewN (Below.refl _ _) _)⟩
end Go.Proofs.Ytoimmapdkapheaa
/- Store done to both worlds. -/
namespace Go.Proofs.Ytoimmapdkapheaa
set_option maxRecDepth 4000
open Go.RowKit

/-- One word of a space of the document's stored. -/
theorem fm_store {F : Nat → Prop} {w W : World} {q : Nat} {v : Value} {T : Sps} {A : Wd} {i : Nat} {n : Int} {s : Sp} (h : Bec F w (FmX q v T) W) (hT : FmOk T A) (hi : i < T.length) (hin : (T.getD i zT).1.n = n) (hs : (T.getD i zT).2 = s) (hso : s.ok) {k j u : Nat} (hk : k < 4096) (hj : j < 8) (hu : u < 18446744073709551616)
    (hr : Row rW8 0 W (T.getD i zT).1.vw (wordsA s.wd)) : Bec F w (FmT q (A.set n (some ⟨s.f, wdS s.wd k j u⟩))) (W.setCell ⟨(T.getD i zT).1.gw, k * 8 + j, none⟩ (.int .u64 u)) := by
  have hlen : k < (wordsA s.wd).length := by rw [words_len]; exact hk
  have hp := hr.put1 k j (.int .u64 u) (fun r => if r = j then u else s.wd k r) hlen hj (by
    rw [show (wordsA s.wd).getD k rW8.zero = s.wd k from words_get s.wd hk]
    exact w8set (s.wd k) hj u)
  have e1 : (wordsA s.wd).set k (fun r => if r = j then u else s.wd k r) = wordsA (wdS s.wd k j u) := by
    rw [words_set]
    refine words_congr fun a _ => ?_
    funext r
    unfold wdS
    by_cases c : a = k
    · subst c
      rw [if_pos rfl]
      by_cases c2 : r = j
      · rw [if_pos c2, if_pos ⟨rfl, c2⟩]
      · rw [if_neg c2, if_neg (fun h => c2 h.2)]
    · rw [if_neg c, if_neg (fun h => c h.1)]
  rw [e1] at hp
  have := fm_words h hi (wd' := wdS s.wd k j u) hp (Keeps.set W _ _ _)
  rw [hs] at this
  have h2 := ly_end (x := (T.getD i zT).1) (f := s.f) (wd := wdS s.wd k j u) this hT hi rfl (store_ok hso k j hu)
  rwa [hin] at h2
/-- What At tells where a word is, and what a store there leaves. -/
def StAt (F : Nat → Prop) (w : World) (q : Nat) (Z : Th → Th) (A' : Wd) (k j u : Nat) (t1 : Bool) (w1 : World) (e : Ending) (w2 : World) : Prop :=
  w2 = w1 ∧ ∃ (i len g c gp cp gw cw : Nat) (old : Value), i < len ∧ e = .returned (.tuple #[.int .i64 i, .int .i64 0]) ∧ w1.cell? ⟨q, 0, none⟩ = some (.slice (some ⟨g, 0, none⟩) len c) ∧ w1.cell? ⟨g, i * 3 + 1, none⟩ = some (.slice (some ⟨gp, 0, none⟩) 4096 cp) ∧
    w1.cell? ⟨g, i * 3 + 2, none⟩ = some (.slice (some ⟨gw, 0, none⟩) 4096 cw) ∧ w1.cell? ⟨gp, k * 4 + 1, none⟩ = some (.bool t1) ∧ w1.cell? ⟨gw, k * 8 + j, none⟩ = some old ∧ w1.frozen? ⟨gw, k * 8 + j, none⟩ = false ∧ Hid (Bec F w (Z (FmT q A')) (w1.setCell ⟨gw, k * 8 + j, none⟩ (.int .u64 u)))
set_option maxRecDepth 100000 in
set_option maxHeartbeats 16000000 in
theorem do_store {F : Nat → Prop} {w : World} {p q : Nat} {A A' : Wd} {d : FDd} {code : Int} {kd : Nat} (h : ((FlT p A).and (FmT q A)).In F w) (hok : d.ok) (hk : pickN d.what 11 = kd) (hkd : kd = 9 ∨ kd = 10) (hd : StoreD A d.space d.from_ d.i d.v code A') :
    Calls Try.prog 10 #[.pointer (some ⟨p, 0, none⟩), .pointer (some ⟨q, 0, none⟩), .agg d.arr] w (DoP F w p q A') := by
  have hcd : 0 ≤ code ∧ code ≤ 8 := StoreD.code hd
  have HD : Hid (StoreD A d.space d.from_ d.i d.v code A') := hd
  have hv : d.v < 18446744073709551616 := by have := hok.2.2.2.2.2.2.2; omega
  have hpk := fun w => pick_any d.what 11 w hok.1.1 hok.1.2 (by omega) (by omega)
  rw [hk] at hpk
  have H0 : Hid (Bec F w (Tri w.heap.size d (FlT p A) (FmT q A)) (w.alloc (.cells d.arr 34))) := tri_new h d
  obtain ⟨F1, f1, fcl⟩ := H0.out.fl
  have hf := stored_any f1 hok.2.1 hv HD.out
  have hce := fun w => code_err code w hcd
  have HX : Hid (∀ w1, Bec F1 (w.alloc (.cells d.arr 34)) (FlT p A') w1 → Bec F w (Tri w.heap.size d (FlT p A') (FmT q A)) w1) := fun w1 hb => fcl hb
  have hA : A.ok := by obtain ⟨_, ⟨_, hA⟩, _⟩ := f1; exact hA
  rcases hd with ⟨hat, hc, rfl⟩ | ⟨s, t, hs, hat, ht, h2⟩
  · have hm : ∀ w1, Bec F w (Tri w.heap.size d (FlT p A') (FmT q A')) w1 → Calls Try.prog 33 #[.pointer (some ⟨q, 0, none⟩), .int .i64 d.space, .int .i64 d.from_, .int .i64 d.i] w1 (fun e w2 => e = .returned (.tuple #[.int .i64 0, .int .i64 code]) ∧ w2 = w1) := fun w1 hb => by
      obtain ⟨F2, ⟨⟨v, T⟩, hT, m1⟩, mcl⟩ := hb.fm
      refine (rat_any m1 hT hat).mono fun e w2 hp => ?_
      obtain ⟨rfl, ⟨_, rfl⟩ | ⟨h, _⟩⟩ := hp
      · exact ⟨rfl, rfl⟩
      · exact absurd h hc
    obtain ⟨a0, a1, a2, a3, a4, ⟨a5, a6⟩, a7, a8, a9⟩ := d
    unfold FDd.arr at *
    simp only at *
    have hc' : (code == 0) = false := by simpa using hc
    clear f1 fcl H0 h hat HD hok hk hcd hA
    rcases hkd with rfl | rfl
    all_goals
      go_enter Try.func10, Try.ntmps10
      go_wp2_with fail
      refine (hpk _).mono ?_
      rintro e w1 ⟨rfl, hw⟩
      obtain rfl := hw.symm
      clear hw hpk
      go_wp2_with fail
      refine hf.mono ?_
      rintro e w1 ⟨rfl, hb1⟩
      have HB1 : Hid (Bec F w (Tri w.heap.size ⟨a0, a1, a2, a3, a4, ⟨a5, a6⟩, a7, a8, a9⟩ (FlT p A') (FmT q A')) w1) := HX.out _ hb1
      have hm1 := hm _ HB1.out
      obtain ⟨x0, x1, x2, x3, x4, x5, x6, x7, x8, x9⟩ := deed_cells HB1.out.tri_box
      clear hb1 hm hf HX
      generalize hev : errV code = ev at *
      go_wp2_with fail
      refine hm1.mono ?_
      rintro e w2 ⟨rfl, hw⟩
      obtain rfl := hw.symm
      clear hw hm1 
      go_wp2
      go_quiet (fail)
      go_wp2_with fail
      refine (hce _).mono ?_
      rintro e w3 ⟨rfl, hw⟩
      obtain rfl := hw.symm
      clear hw hce
      go_wp2
      go_ret
      exact ⟨rfl, HB1.out.right.below (below_drewN (Below.refl _ _) _)⟩
  · have hpg := page_in hA hs ht
    obtain ⟨_, _, _, hi0, hi8, _⟩ := hat.some
    obtain ⟨k, hkk⟩ : ∃ k : Nat, d.from_ = k := ⟨d.from_.toNat, by omega⟩
    obtain ⟨j, hjj⟩ : ∃ j : Nat, d.i = j := ⟨d.i.toNat, by omega⟩
    rw [hkk, hjj] at h2
    simp only [Int.toNat_natCast] at h2
    have hm : ∀ w1, Bec F w (Tri w.heap.size d (FlT p A') (FmT q A)) w1 → Calls Try.prog 33 #[.pointer (some ⟨q, 0, none⟩), .int .i64 d.space, .int .i64 d.from_, .int .i64 d.i] w1 (StAt F w q (fun Y => Tri w.heap.size d (FlT p A') Y) (A.set d.space (some ⟨s.f, wdS s.wd k j d.v⟩)) k j d.v t.1 w1) := fun w1 hb => by
      obtain ⟨F2, ⟨⟨v, T⟩, hT, m1⟩, mcl⟩ := hb.fm
      refine (rat_any m1 hT hat).mono fun e w2 hp => ?_
      obtain ⟨rfl, ⟨h, _⟩ | ⟨_, i, hi, hin, rfl⟩⟩ := hp
      · exact absurd rfl h
      · have e := lk_at T hT.nod i hi
        rw [hT.eq, hin, hs] at e
        have e := Option.some.inj e
        obtain ⟨g, c, gp, cp, gw, cw, c0, c1, c2, c3, c4, c5, c6, c7⟩ := page_cells m1 hi (k := k) (by omega) (t := t) (by rw [← e, ← hkk]; exact ht)
        rw [← e] at c7
        have hlen : k < (wordsA s.wd).length := by rw [words_len]; omega
        obtain ⟨g', e', -, -, -, -, -, hatk⟩ := c7.at hlen
        cases e'
        have hu := rW8.at hatk (j := j) (by omega)
        refine ⟨rfl, i, T.length, g, c, gp, cp, gw, cw, _, hi, rfl, c0, c1, c2, c3, hu, c7.frozen _, mcl ?_⟩
        have := fm_store (Bec.refl m1) hT hi hin e.symm (hA _ s hs).2 (k := k) (j := j) (u := d.v) (by omega) (by omega) hv (by unfold SpV.vw; rw [c5, c6]; exact c7)
        rwa [c5] at this
    obtain ⟨a0, a1, a2, a3, a4, ⟨a5, a6⟩, a7, a8, a9⟩ := d
    unfold FDd.arr at *
    simp only at *
    subst hkk
    subst hjj
    have hk4 : (k : Int) < 4096 := hpg.2
    have hj8 : (j : Int) < 8 := by omega
    obtain ⟨t1, t2, t3⟩ := t
    simp only at *
    clear f1 fcl H0 h hat HD hok hk hcd hs ht hpg hA hi0 hi8
    unfold StAt at hm
    rcases h2 with ⟨rfl, rfl, rfl⟩ | ⟨rfl, rfl, rfl⟩
    · rcases hkd with rfl | rfl
      all_goals
        go_enter Try.func10, Try.ntmps10
        go_wp2_with fail
        refine (hpk _).mono ?_
        rintro e w1 ⟨rfl, hw⟩
        obtain rfl := hw.symm
        clear hw hpk
        go_wp2_with fail
        refine hf.mono ?_
        rintro e w1 ⟨rfl, hb1⟩
        have HB1 : Hid (Bec F w (Tri w.heap.size ⟨a0, a1, a2, k, a4, ⟨a5, a6⟩, a7, j, a9⟩ (FlT p A') (FmT q A')) w1) := HX.out _ hb1
        have hm1 := hm _ HB1.out
        obtain ⟨x0, x1, x2, x3, x4, x5, x6, x7, x8, x9⟩ := deed_cells HB1.out.tri_box
        clear hb1 hm hf HX
        generalize hev : errV _ = ev at *
        go_wp2_with fail
        refine hm1.mono ?_
        rintro e w2 ⟨hw, i, len, g, c, gp, cp, gw, cw, old, hil, rfl, c0, c1, c2, c3, c4, c5, -⟩
        obtain rfl := hw.symm
        have hilz : (i : Int) < (len : Int) := by omega
        clear hw hm1 hil
        go_wp2
        go_quiet (fail)
        go_wp2_with fail
        refine (hce _).mono ?_
        rintro e w3 ⟨rfl, hw⟩
        obtain rfl := hw.symm
        clear hw hce
        go_wp2
        go_ret
        exact ⟨rfl, HB1.out.right.below (below_drewN (Below.refl _ _) _)⟩
    · rcases hkd with rfl | rfl
      all_goals
        go_enter Try.func10, Try.ntmps10
        go_wp2_with fail
        refine (hpk _).mono ?_
        rintro e w1 ⟨rfl, hw⟩
        obtain rfl := hw.symm
        clear hw hpk
        go_wp2_with fail
        refine hf.mono ?_
        rintro e w1 ⟨rfl, hb1⟩
        have HB1 : Hid (Bec F w (Tri w.heap.size ⟨a0, a1, a2, k, a4, ⟨a5, a6⟩, a7, j, a9⟩ (FlT p (A.set a1 (some ⟨s.f, wdS s.wd k j a9⟩))) (FmT q A)) w1) := HX.out _ hb1
        have hm1 := hm _ HB1.out
        obtain ⟨x0, x1, x2, x3, x4, x5, x6, x7, x8, x9⟩ := deed_cells HB1.out.tri_box
        clear hb1 hm hf HX
        generalize hev : errV _ = ev at *
        go_wp2_with fail
        refine hm1.mono ?_
        rintro e w2 ⟨hw, i, len, g, c, gp, cp, gw, cw, old, hil, rfl, c0, c1, c2, c3, c4, c5, HS⟩
        obtain rfl := hw.symm
        have hilz : (i : Int) < (len : Int) := by omega
        clear hw hm1 hil
        go_wp2
        go_quiet (fail)
        go_wp2
        go_region
        go_wp2_with fail
        refine (hce _).mono ?_
        rintro e w3 ⟨rfl, hw⟩
        obtain rfl := hw.symm
        clear hw hce
        go_wp2
        go_ret
        exact ⟨rfl, HS.out.right.below (below_drewN (Below.refl _ _) _)⟩
end Go.Proofs.Ytoimmapdkapheaa
/- The contracts of slices.Sorted(maps.Keys(m)) at this seat's numbers, in plain words: laid by tools/shelf.sh. -/
namespace Go.Proofs
open Go.Shelf
def Try.keysA_ren : Go.Shelf.Ren := ⟨fun | 7 => 46 | 10 => 66 | n => n, fun | 23 => 66 | 26 => 3 | 3 => 80 | 28 => 96 | 0 => 0 | 27 => 95 | 33 => 90 | 4 => 4 | n => n, fun | n => n⟩
theorem Try.keysA : Go.Proofs.SlLaysZI.n7 Try.prog Try.keysA_ren := {
  mixed := by kernel_rfl
  f7 := ⟨Try.f46.name, by decide, Try.func46.trans (congrArg some (by kernel_rfl))⟩
  f10 := ⟨Try.f66.name, by decide, Try.func66.trans (congrArg some (by kernel_rfl))⟩
  t0 := Try.underlying0
  a0 := Try.isAgg0
  z0 := Try.sizeOf0
  v0 := Try.zeroValue0
  t4 := Try.underlying4
  a4 := Try.isAgg4
  z4 := Try.sizeOf4
  v4 := Try.zeroValue4
  t23 := Try.underlying66
  a23 := Try.isAgg66
  z23 := Try.sizeOf66
  v23 := Try.zeroValue66
  t26 := Try.underlying3
  a26 := Try.isAgg3
  z26 := Try.sizeOf3
  v26 := Try.zeroValue3
  t27 := Try.underlying95
  a27 := Try.isAgg95
  z27 := Try.sizeOf95
  v27 := Try.zeroValue95
  t28 := Try.underlying96
  a28 := Try.isAgg96
  z28 := Try.sizeOf96
  v28 := Try.zeroValue96
  t33 := Try.underlying90
  a33 := Try.isAgg90
  z33 := Try.sizeOf90
  v33 := Try.zeroValue90 }
def Try.sortedA_ren : Go.Shelf.Ren := ⟨fun | 6 => 45 | 8 => 64 | 9 => 65 | 11 => 74 | 13 => 76 | 12 => 75 | 23 => 87 | 24 => 88 | 14 => 78 | 15 => 79 | 16 => 80 | 17 => 81 | 18 => 82 | 19 => 83 | 20 => 84 | 21 => 85 | 22 => 86 | 25 => 89 | 26 => 90 | 27 => 91 | 28 => 92 | 29 => 93 | 30 => 94 | 31 => 95 | n => n, fun | 26 => 3 | 28 => 96 | 24 => 38 | 0 => 0 | 3 => 3 | 37 => 126 | 48 => 136 | 50 => 32 | 4 => 4 | 40 => 129 | 39 => 128 | 45 => 133 | 5 => 5 | 9 => 9 | 51 => 138 | 55 => 142 | 57 => 144 | 58 => 75 | 33 => 90 | n => n, fun | n => n⟩
theorem Try.sortedA : Go.Proofs.SlLaysZI.n6 Try.prog Try.sortedA_ren := {
  mixed := by kernel_rfl
  f6 := ⟨Try.f45.name, by decide, Try.func45.trans (congrArg some (by kernel_rfl))⟩
  f8 := ⟨Try.f64.name, by decide, Try.func64.trans (congrArg some (by kernel_rfl))⟩
  f11 := ⟨Try.f74.name, by decide, Try.func74.trans (congrArg some (by kernel_rfl))⟩
  t0 := Try.underlying0
  a0 := Try.isAgg0
  z0 := Try.sizeOf0
  v0 := Try.zeroValue0
  t24 := Try.underlying38
  a24 := Try.isAgg38
  z24 := Try.sizeOf38
  v24 := Try.zeroValue38
  t26 := Try.underlying3
  a26 := Try.isAgg3
  z26 := Try.sizeOf3
  v26 := Try.zeroValue3
  t28 := Try.underlying96
  a28 := Try.isAgg96
  z28 := Try.sizeOf96
  v28 := Try.zeroValue96
  i26 := by kernel_rfl }
def Try.sortA_ren : Go.Shelf.Ren := ⟨fun | 5 => 65 | 8 => 76 | 7 => 75 | 19 => 87 | 20 => 88 | 10 => 78 | 11 => 79 | 12 => 80 | 13 => 81 | 14 => 82 | 15 => 83 | 16 => 84 | 17 => 85 | 18 => 86 | 30 => 89 | 31 => 90 | 32 => 91 | 33 => 92 | 34 => 93 | 35 => 94 | 40 => 95 | n => n, fun | 23 => 38 | 25 => 3 | 3 => 3 | 32 => 126 | 22 => 38 | 0 => 0 | 44 => 136 | 46 => 32 | 4 => 4 | 36 => 129 | 35 => 128 | 41 => 133 | 5 => 5 | 9 => 9 | 53 => 138 | 57 => 142 | 63 => 144 | 64 => 75 | n => n, fun | n => n⟩
theorem Try.sortA : Go.Proofs.SlLaysM.n5 Try.prog Try.sortA_ren := {
  mixed := by kernel_rfl
  f5 := ⟨Try.f65.name, by decide, Try.func65.trans (congrArg some (by kernel_rfl))⟩
  f7 := ⟨Try.f75.name, by decide, Try.func75.trans (congrArg some (by kernel_rfl))⟩
  f8 := Try.func76.trans (congrArg some (by kernel_rfl))
  f10 := ⟨Try.f78.name, by decide, Try.func78.trans (congrArg some (by kernel_rfl))⟩
  f11 := ⟨Try.f79.name, by decide, Try.func79.trans (congrArg some (by kernel_rfl))⟩
  f12 := ⟨Try.f80.name, by decide, Try.func80.trans (congrArg some (by kernel_rfl))⟩
  f13 := ⟨Try.f81.name, by decide, Try.func81.trans (congrArg some (by kernel_rfl))⟩
  f14 := ⟨Try.f82.name, by decide, Try.func82.trans (congrArg some (by kernel_rfl))⟩
  f15 := ⟨Try.f83.name, by decide, Try.func83.trans (congrArg some (by kernel_rfl))⟩
  f16 := ⟨Try.f84.name, by decide, Try.func84.trans (congrArg some (by kernel_rfl))⟩
  f17 := ⟨Try.f85.name, by decide, Try.func85.trans (congrArg some (by kernel_rfl))⟩
  f18 := ⟨Try.f86.name, by decide, Try.func86.trans (congrArg some (by kernel_rfl))⟩
  f19 := Try.func87.trans (congrArg some (by kernel_rfl))
  f20 := Try.func88.trans (congrArg some (by kernel_rfl))
  f30 := ⟨Try.f89.name, by decide, Try.func89.trans (congrArg some (by kernel_rfl))⟩
  f31 := Try.func90.trans (congrArg some (by kernel_rfl))
  f32 := Try.func91.trans (congrArg some (by kernel_rfl))
  f33 := ⟨Try.f92.name, by decide, Try.func92.trans (congrArg some (by kernel_rfl))⟩
  f34 := ⟨Try.f93.name, by decide, Try.func93.trans (congrArg some (by kernel_rfl))⟩
  f35 := ⟨Try.f94.name, by decide, Try.func94.trans (congrArg some (by kernel_rfl))⟩
  f40 := ⟨Try.f95.name, by decide, Try.func95.trans (congrArg some (by kernel_rfl))⟩
  t0 := Try.underlying0
  a0 := Try.isAgg0
  z0 := Try.sizeOf0
  v0 := Try.zeroValue0
  t3 := Try.underlying3
  a3 := Try.isAgg3
  z3 := Try.sizeOf3
  v3 := Try.zeroValue3
  t4 := Try.underlying4
  a4 := Try.isAgg4
  z4 := Try.sizeOf4
  v4 := Try.zeroValue4
  t5 := Try.underlying5
  a5 := Try.isAgg5
  z5 := Try.sizeOf5
  v5 := Try.zeroValue5
  t9 := Try.underlying9
  a9 := Try.isAgg9
  z9 := Try.sizeOf9
  v9 := Try.zeroValue9
  t22 := Try.underlying38
  a22 := Try.isAgg38
  z22 := Try.sizeOf38
  v22 := Try.zeroValue38
  t23 := Try.underlying38
  a23 := Try.isAgg38
  z23 := Try.sizeOf38
  v23 := Try.zeroValue38
  t25 := Try.underlying3
  a25 := Try.isAgg3
  z25 := Try.sizeOf3
  v25 := Try.zeroValue3
  t32 := Try.underlying126
  a32 := Try.isAgg126
  z32 := Try.sizeOf126
  v32 := Try.zeroValue126
  t35 := Try.underlying128
  a35 := Try.isAgg128
  z35 := Try.sizeOf128
  v35 := Try.zeroValue128
  t36 := Try.underlying129
  a36 := Try.isAgg129
  z36 := Try.sizeOf129
  v36 := Try.zeroValue129
  t41 := Try.underlying133
  a41 := Try.isAgg133
  z41 := Try.sizeOf133
  v41 := Try.zeroValue133
  t44 := Try.underlying136
  a44 := Try.isAgg136
  z44 := Try.sizeOf136
  v44 := Try.zeroValue136
  t46 := Try.underlying32
  a46 := Try.isAgg32
  z46 := Try.sizeOf32
  v46 := Try.zeroValue32
  t53 := Try.underlying138
  a53 := Try.isAgg138
  z53 := Try.sizeOf138
  v53 := Try.zeroValue138
  t57 := Try.underlying142
  a57 := Try.isAgg142
  z57 := Try.sizeOf142
  v57 := Try.zeroValue142
  t63 := Try.underlying144
  a63 := Try.isAgg144
  z63 := Try.sizeOf144
  v63 := Try.zeroValue144
  t64 := Try.underlying75
  a64 := Try.isAgg75
  z64 := Try.sizeOf75
  v64 := Try.zeroValue75 }
end Go.Proofs
/- Spaces: their numbers, rising. -/
namespace Go.Proofs.Ytoimmapdkapheaa
set_option maxRecDepth 4000
open Go.RowKit Go.Maps Go.Sort Go.Shelf
open Go.WideElems (Fit rg)

/-- Numbers in a row. -/
def rNm : Rec Int := ⟨3, 1, 8, 0, fun x => [.int .i64 x], fun _ => rfl, by decide, fun x u hu => by simp at hu; rw [hu]; rfl⟩
theorem rNm.all (l : List Int) : rNm.all l = l.map encZ := by
  induction l with
  | nil => rfl
  | cons x r ih => rw [rNm.all_cons, ih]; rfl
def anyR (_ : Value) : Option (DataW Unit × List MemPlace) := some (.nil, [])
theorem mp_owns {w : World} {m : Nat} {l : Spl} (h : Mp spM w m l) (hlen : l.length ≤ 255) :
    ∃ (D0 : DataW Unit) (n : Nat), w.ownsMap Try.prog 3 anyR m n D0 ∧ (intKeys D0).Perm (l.map (·.1)) ∧ Maps.size D0 = l.length := by
  obtain ⟨es, clock, hb, hs, he, hok⟩ := h
  have hkey : ∀ x ∈ es.toList, ∃ p ∈ l, x.key = .int .i64 p.1 ∧ rg Try.prog 3 anyR x = (.int .i64 p.1, .nil) := fun x hx => by
    obtain ⟨p, hp, e1, _⟩ := he.mem hx
    refine ⟨p, hp, e1, ?_⟩
    have w1 : (Lit.int .i64 p.1).wf = true := WalkArith.wf_i64 ⟨(hok p hp).1, (hok p hp).2⟩
    have : keyOf Try.prog 3 x.key = some (.int .i64 p.1) := by
      rw [e1]
      show keyOf Try.prog 3 (.int .i64 p.1) = _
      simp [keyOf, Try.underlying3, mapKey, w1]
    unfold rg Go.WideElems.rd
    rw [this]
    rfl
  have hF : Fit Try.prog 3 anyR es clock := ⟨by rw [he.len]; unfold maxLen; omega, hs, fun x hx => by
    obtain ⟨p, hp, e1, e2⟩ := hkey x hx
    obtain ⟨k, hk⟩ := i_reads (hok p hp)
    exact ⟨_, by unfold Go.WideElems.rd; rw [e1, hk]; rfl⟩⟩
  refine ⟨_, es.size, ⟨es, clock, hb, hF, Nat.le_refl _, rfl⟩, ?_, ?_⟩
  · show ((List.foldr DataW.insert [] (es.toList.map (rg Try.prog 3 anyR))).map fun p => Go.intOf p.1).Perm _
    refine ((WideShapes.sorted_perm _).map _).trans ?_
    rw [List.map_map]
    have e : es.toList.map ((fun p : Lit × DataW Unit => Go.intOf p.1) ∘ rg Try.prog 3 anyR) = l.map (·.1) := by
      have h1 : (es.toList.map fun x => x.key) = l.map fun p => Value.int .i64 p.1 := by
        have := congrArg (List.map Prod.fst) he
        simpa [List.map_map, Function.comp_def, spM] using this
      have h2 : (es.toList.map fun x => match x.key with | .int _ a => a | _ => 0) = l.map (·.1) := by
        have := congrArg (List.map fun v : Value => match v with | .int _ a => a | _ => (0 : Int)) h1
        simpa [List.map_map, Function.comp_def] using this
      rw [← h2]
      refine List.map_congr_left fun x hx => ?_
      obtain ⟨p, hp, e1, e2⟩ := hkey x hx
      show Go.intOf (rg Try.prog 3 anyR x).1 = _
      rw [e2, e1]
      rfl
    rw [e]
  · show (List.foldr DataW.insert [] (es.toList.map (rg Try.prog 3 anyR))).length = _
    rw [(WideShapes.sorted_perm _).length_eq, List.length_map, Array.length_toList, he.len]
theorem sorts_A (m : Nat) : AnyZI.SortsIn Try.prog Try.sortedA_ren Fence.wide m :=
  ⟨fun blk off cap ss W hH hblk hsz => callsIn_wide.2 (AnyM.slices_Sort_int Try.sortA blk off cap ss W hH hblk hsz),
   fun p cap W => callsIn_wide.2 (AnyM.slices_Sort_int_none Try.sortA p cap W)⟩
/-- What Spaces tells. -/
def SpsP (w : World) (A : Wd) (e : Ending) (w' : World) : Prop :=
  ∃ (v : Value) (ss : List Int), e = .returned v ∧ Row rNm w.heap.size w' v ss ∧ ss.Pairwise (fun a b => a < b) ∧ (∀ n, n ∈ ss ↔ A n ≠ none) ∧ ss.length ≤ 255 ∧ Below w.heap.size w w'
theorem lk_keys {l : Spl} (n : Int) : n ∈ l.map (·.1) ↔ lkP l n ≠ none := by
  rw [Ne, lk_none', List.mem_map]
  constructor
  · rintro ⟨p, hp, rfl⟩ h
    exact getL_none' h p hp rfl
  · intro h
    obtain ⟨x, hx⟩ := Option.ne_none_iff_exists'.1 h
    exact ⟨_, getL_mem hx, rfl⟩
theorem keys_few {l : Spl} (hd : l.Pairwise fun p q => p.1 ≠ q.1) (hok : (lkP l).ok) : (l.map (·.1)).Nodup ∧ l.length ≤ 255 := by
  have h1 : (l.map (·.1)).Nodup := List.pairwise_map.2 hd
  refine ⟨h1, ?_⟩
  have := few_keys 255 (l.map (·.1)) h1 fun k hk => by
    obtain ⟨s, hs⟩ := Option.ne_none_iff_exists'.1 ((lk_keys k).1 hk)
    exact (hok k s hs).1
  simpa using this
set_option maxRecDepth 100000 in
set_option maxHeartbeats 4000000 in
theorem spaces_any {F : Nat → Prop} {w : World} {p : Nat} {A : Wd} (h : (FlT p A).In F w) : Calls Try.prog 19 #[.pointer (some ⟨p, 0, none⟩)] w (SpsP w A) := by
  obtain ⟨⟨m, l⟩, ⟨rfl, hok⟩, h⟩ := h
  simp only at h hok ⊢
  obtain ⟨hnd, hfew⟩ := keys_few (FlX.mp h).apart hok
  obtain ⟨D0, n0, hown, hperm, hsize⟩ := mp_owns (FlX.mp h) hfew
  have c0 : w.cell? ⟨p, 0, none⟩ = some (.map (some m)) := by rw [(FlX.box h).cell]; rfl
  have hbl := (FlX.mp h).lt
  refine (callsIn_wide (n := 6)).1 ?_
  have hseq : SeqGives Fence.wide 2 Try.prog 66 #[.pointer (some ⟨w.heap.size, 0, none⟩)] encZ (fun ss => ss.Perm (intKeys D0)) (Maps.size D0) (w.alloc (.cells #[.map (some m)] 66)) :=
    AnyZI.keys_gives (ρ := Try.keysA_ren) { Try.keysA with } Fence.wide _ trivial rfl (by omega) w.heap.size m n0 D0 _ (by simp) (by simp) (by
      obtain ⟨es, clock, hb, Ft, hs, hD⟩ := hown
      exact ⟨es, clock, (Below.heap_alloc _ _ m hbl).trans hb, Ft, hs, hD⟩)
  have cK : ∀ mb W, CallsIn Fence.wide 5 Try.prog 46 #[.map mb] W fun e w' => e = .returned (.func (.func 66) #[] #[.pointer (some ⟨W.heap.size, 0, none⟩)]) ∧ w' = W.alloc (.cells #[.map mb] 66) := fun mb W => AnyZI.keys_in Try.keysA Fence.wide 5 trivial rfl mb W
  have cS := AnyZI.sorted_in Try.sortedA Fence.wide 5 trivial trivial trivial trivial rfl (by omega) (sorts_A _) (enters_of Try.func65 (by kernel_rfl) rfl) 66 #[.pointer (some ⟨w.heap.size, 0, none⟩)] trivial (enters_of Try.func66 (by kernel_rfl) rfl) _ _ (by rw [hsize]; unfold maxLen; omega) (by rw [hsize]; omega) _ hseq
  change CallsIn _ _ Try.prog 45 _ _ _ at cS
  have hfK : Fence.wide.fn 46 := trivial
  have hfS : Fence.wide.fn 45 := trivial
  have HZ : Hid (∀ (v : Value) (ss : List Int) (w' : World), ss.Perm (intKeys D0) → w'.ownsRow (w.alloc (.cells #[.map (some m)] 66)).heap.size 3 1 v ss.length ((ss.mergeSort (fun x y => decide (x ≤ y))).map encZ) → Below (w.alloc (.cells #[.map (some m)] 66)).heap.size (w.alloc (.cells #[.map (some m)] 66)) w' → SpsP w (lkP l) (.returned v) w') := fun v ss w' hS hrow hb => by
    have hp2 := (List.mergeSort_perm ss (fun x y => decide (x ≤ y))).trans (hS.trans hperm)
    refine ⟨v, ss.mergeSort (fun x y => decide (x ≤ y)), rfl, ?_, ?_, fun n => ?_, ?_, ((Below.refl _ w).alloc (Nat.le_refl _) _).trans (hb.mono (by simp))⟩
    · have h0 : Row rNm (w.alloc (.cells #[.map (some m)] 66)).heap.size w' v (ss.mergeSort (fun x y => decide (x ≤ y))) := by
        unfold Row
        rw [rNm.all, (List.mergeSort_perm ss _).length_eq]
        exact hrow
      exact h0.lower (by simp)
    · have hle : (ss.mergeSort (fun x y => decide (x ≤ y))).Pairwise fun a b => decide (a ≤ b) = true := List.pairwise_mergeSort (fun a b c h1 h2 => by simp only [decide_eq_true_eq] at *; omega) (fun a b => by simp only [Bool.or_eq_true, decide_eq_true_eq]; omega) ss
      have hne : (ss.mergeSort (fun x y => decide (x ≤ y))).Nodup := hp2.nodup_iff.2 hnd
      exact List.Pairwise.imp₂ (fun a b h1 h2 => by simp only [decide_eq_true_eq] at h1; omega) hle hne
    · rw [hp2.mem_iff]
      exact lk_keys n
    · rw [hp2.length_eq, List.length_map]
      exact hfew
  clear hown hperm hsize hseq hbl hnd hfew h hok
  refine callsIn_of_wp Try.func19 rfl trivial ?_ rfl
  simp only [Try.ntmps19, List.size_toArray, List.length_cons, List.length_nil, Nat.reduceAdd, Nat.reduceSub, Array.replicate_succ, Array.replicate_zero, List.push_toArray, List.append_toArray, List.nil_append, List.cons_append]
  gi_wp2_with (first
    | (gi_at_call 46; refine (cK _ _).mono ?_; rintro e w' ⟨rfl, rfl⟩)
    | (gi_at_call 45; refine cS.mono ?_; rintro e w' ⟨v, ss, rfl, hS, hrow, hnil, hb⟩))
  go_ret
  exact HZ.out _ _ _ hS hrow hb
end Go.Proofs.Ytoimmapdkapheaa
/- Whether a world of spaces of the program's stands as one of the document's. -/
namespace Go.Proofs.Ytoimmapdkapheaa
set_option maxRecDepth 4000
open Go.RowKit

theorem nod_nums {T : Sps} {A : Wd} (hT : FmOk T A) : (T.map fun x => x.1.n).Nodup ∧ ∀ n, n ∈ T.map (fun x => x.1.n) ↔ A n ≠ none := by
  refine ⟨nod_pw hT.nod, fun n => ⟨fun h => ?_, fun h => ?_⟩⟩
  · obtain ⟨y, hy, rfl⟩ := List.mem_map.1 h
    obtain ⟨i, hi, rfl⟩ := List.mem_iff_getElem.1 hy
    have e := lk_at T hT.nod i hi
    rw [hT.eq] at e
    have e2 : T.getD i zT = T[i] := by rw [List.getD_eq_getElem?_getD, List.getElem?_eq_getElem hi]; rfl
    rw [e2] at e
    rw [e]
    simp
  · obtain ⟨s, hs⟩ := Option.ne_none_iff_exists'.1 h
    obtain ⟨i, hi, hin, -⟩ := lk_mem (T := T) (by rw [hT.eq]; exact hs)
    have e2 : T.getD i zT = T[i] := by rw [List.getD_eq_getElem?_getD, List.getElem?_eq_getElem hi]; rfl
    rw [e2] at hin
    exact List.mem_map.2 ⟨T[i], List.getElem_mem hi, hin⟩
theorem rise_nodup : ∀ {ss : List Int}, ss.Pairwise (fun a b => a < b) → ss.Nodup
  | [], _ => List.nodup_nil
  | x :: r, h => by
    obtain ⟨h1, h2⟩ := List.pairwise_cons.1 h
    exact List.nodup_cons.2 ⟨fun hm => by have := h1 x hm; omega, rise_nodup h2⟩
theorem same_len {T : Sps} {A : Wd} {ss : List Int} (hT : FmOk T A) (h1 : ss.Pairwise (fun a b => a < b)) (h2 : ∀ n, n ∈ ss ↔ A n ≠ none) : ss.length = T.length := by
  obtain ⟨g1, g2⟩ := nod_nums hT
  have := (List.perm_ext_iff_of_nodup (rise_nodup h1) g1).2 fun n => (h2 n).trans (g2 n).symm
  have := this.length_eq
  simpa using this
theorem rise_at {ss : List Int} (h : ss.Pairwise (fun a b => a < b)) {k : Nat} (hk : 0 < k) (hl : k < ss.length) : ss.getD (k - 1) 0 < ss.getD k 0 := by
  have := List.pairwise_iff_getElem.1 h (k - 1) k (by omega) hl (by omega)
  rw [List.getD_eq_getElem?_getD, List.getD_eq_getElem?_getD, List.getElem?_eq_getElem hl, List.getElem?_eq_getElem (show k - 1 < ss.length by omega)]
  exact this
theorem nm_at {B : Nat} {w : World} {ao : Option Addr} {n c : Nat} {l : List Int} (h : Row rNm B w (.slice ao n c) l) {k : Nat} (hk : k < l.length) : ∃ g, ao = some ⟨g, 0, none⟩ ∧ g < w.heap.size ∧ w.cell? ⟨g, k, none⟩ = some (.int .i64 (l.getD k 0)) := by
  obtain ⟨g, e, -, -, hlt, -, -, hat⟩ := h.at hk
  refine ⟨g, e, hlt, ?_⟩
  have := hat 0 (by decide)
  simpa [rNm] using this
/-- Both worlds, in all worlds behind. -/
structure Two (w : World) (p q : Nat) (A : Wd) (T : Sps) (v : Value) : Prop where
  fl : ∃ G, (FlT p A).In G w
  fm : ∃ G, (FmX q v T).In G w
  ok : FmOk T A
theorem two_of {F : Nat → Prop} {w : World} {p q : Nat} {A : Wd} (h : ((FlT p A).and (FmT q A)).In F w) : ∃ T v, Two w p q A T v := by
  obtain ⟨G1, G2, _, _, h1, ⟨v, T⟩, hT, h2⟩ := h
  exact ⟨T, v, ⟨G1, h1⟩, ⟨G2, h2⟩, hT⟩
theorem Two.below {w W : World} {p q : Nat} {A : Wd} {T : Sps} {v : Value} (h : Two w p q A T v) (hb : Below w.heap.size w W) : Two W p q A T v := by
  obtain ⟨⟨G1, h1⟩, ⟨G2, h2⟩, h3⟩ := h
  exact ⟨⟨G1, (FlT p A).keeps h1 (Keeps.of_below hb (fun _ => False)) fun _ _ e => e⟩, ⟨G2, (FmX q v T).keeps h2 (Keeps.of_below hb (fun _ => False)) fun _ _ e => e⟩, h3⟩
theorem Two.find {w : World} {p q : Nat} {A : Wd} {T : Sps} {v : Value} (h : Two w p q A T v) {i : Nat} {n : Int} (hi : i < T.length) (hn : (T.getD i zT).1.n = n) : Calls Try.prog 34 #[.pointer (some ⟨q, 0, none⟩), .int .i64 n] w fun e w' => e = .returned (.int .i64 i) ∧ w' = w := by
  obtain ⟨_, ⟨G2, h2⟩, h3⟩ := h
  exact rfind_yes (FmX.box h2) (FmX.row h2) h3.few h3.nod hi hn
/-- What the word at a place is, in both. -/
def LdE (w : World) (A : Wd) (n pg j code : Int) (e : Ending) (w' : World) : Prop := e = .returned (.tuple #[.int .u64 (ldV A n pg j code), errV code]) ∧ Hid (Below w.heap.size w w')
def AtE (w : World) (i : Nat) (code : Int) (e : Ending) (w' : World) : Prop := e = .returned (.tuple #[.int .i64 (if code = 0 then (i : Int) else 0), .int .i64 code]) ∧ w' = w
theorem Two.at {w : World} {p q : Nat} {A : Wd} {T : Sps} {v : Value} (h : Two w p q A T v) {i : Nat} {n pg j code : Int} (hi : i < T.length) (hn : (T.getD i zT).1.n = n) (hd : AtD A n pg j code) :
    Calls Try.prog 33 #[.pointer (some ⟨q, 0, none⟩), .int .i64 n, .int .i64 pg, .int .i64 j] w (AtE w i code) := by
  obtain ⟨_, ⟨G2, h2⟩, h3⟩ := h
  refine (rat_any h2 h3 hd).mono fun e w' hp => ?_
  obtain ⟨rfl, ⟨hc, rfl⟩ | ⟨hc, i', hi', hn', rfl⟩⟩ := hp
  · exact ⟨by rw [if_neg hc], rfl⟩
  · have := h3.nod i' i hi' hi (by rw [hn', hn])
    subst this
    subst hc
    exact ⟨by rw [if_pos rfl], rfl⟩
theorem Two.load {w : World} {p q : Nat} {A : Wd} {T : Sps} {v : Value} (h : Two w p q A T v) {n pg j code : Int} (hn : okI n) (hd : AtD A n pg j code) :
    Calls Try.prog 16 #[.pointer (some ⟨p, 0, none⟩), .int .i64 n, .int .i64 pg, .int .i64 j] w (LdE w A n pg j code) := by
  obtain ⟨⟨G1, h1⟩, _, _⟩ := h
  exact load_any h1 hn hd
theorem Two.areas {w : World} {p q : Nat} {A : Wd} {T : Sps} {v : Value} (h : Two w p q A T v) {n : Int} (hn : okI n) : Calls Try.prog 20 #[.pointer (some ⟨p, 0, none⟩), .int .i64 n] w (ArP w (A n)) := by
  obtain ⟨⟨G1, h1⟩, _, _⟩ := h
  exact areas_any h1 hn
/-- The cells of a word in the document's world. -/
theorem Two.word {w : World} {p q : Nat} {A : Wd} {T : Sps} {v : Value} (h : Two w p q A T v) {i : Nat} {n pg j : Int} {s : Sp} (hi : i < T.length) (hn : (T.getD i zT).1.n = n) (hs : A n = some s) (hd : AtD A n pg j 0) :
    ∃ (g c gw cw k r : Nat), pg = k ∧ j = r ∧ k < 4096 ∧ r < 8 ∧ w.cell? ⟨q, 0, none⟩ = some (.slice (some ⟨g, 0, none⟩) T.length c) ∧ w.cell? ⟨g, i * 3 + 2, none⟩ = some (.slice (some ⟨gw, 0, none⟩) 4096 cw) ∧ w.cell? ⟨gw, k * 8 + r, none⟩ = some (.int .u64 (ldV A n pg j 0)) := by
  obtain ⟨_, ⟨G2, h2⟩, h3⟩ := h
  obtain ⟨s', t, hs', hj0, hj8, ht⟩ := hd.some
  rw [hs] at hs'
  obtain rfl := Option.some.inj hs'
  have hpg := page_in h3.ok hs ht
  obtain ⟨k, rfl⟩ : ∃ k : Nat, pg = k := ⟨pg.toNat, by omega⟩
  obtain ⟨r, rfl⟩ : ∃ r : Nat, j = r := ⟨j.toNat, by omega⟩
  have e := lk_at T h3.nod i hi
  rw [h3.eq, hn, hs] at e
  have e := Option.some.inj e
  obtain ⟨g, c, gp, cp, gw, cw, c0, c1, c2, c3, c4, c5, c6, c7⟩ := page_cells h2 hi (k := k) (by omega) (t := t) (by rw [← e]; exact ht)
  rw [← e] at c7
  have hlen : k < (wordsA s.wd).length := by rw [words_len]; omega
  obtain ⟨g', e', -, -, -, -, -, hatk⟩ := c7.at hlen
  cases e'
  have hu := rW8.at hatk (j := r) (by omega)
  rw [show (wordsA s.wd).getD k rW8.zero = s.wd k from words_get s.wd (by omega)] at hu
  refine ⟨g, c, gw, cw, k, r, rfl, rfl, by omega, by omega, c0, c2, ?_⟩
  unfold ldV wdA
  rw [if_pos rfl, hs]
  simpa [rW8] using hu
end Go.Proofs.Ytoimmapdkapheaa
/- A deed done to both worlds of spaces, whatever it is. -/
namespace Go.Proofs.Ytoimmapdkapheaa
set_option maxRecDepth 4000
open Go.RowKit

theorem do_any {F : Nat → Prop} {w : World} {p q : Nat} {A : Wd} {d : FDd} (h : ((FlT p A).and (FmT q A)).In F w) (hok : d.ok) :
    ∃ A', Calls Try.prog 10 #[.pointer (some ⟨p, 0, none⟩), .pointer (some ⟨q, 0, none⟩), .agg d.arr] w (DoP F w p q A') := by
  have hk := pickN_lt d.what 11 (by omega)
  generalize hn : pickN d.what 11 = n at hk
  match n, hk with
  | 0, _ =>
    obtain ⟨c, A', hd⟩ := make_ex A d.space
    exact ⟨A', do_make h hok hn hd⟩
  | 1, _ =>
    obtain ⟨c, A', hd⟩ := fork_ex A d.space d.other
    exact ⟨A', do_fork h hok hn hd⟩
  | 2, _ =>
    obtain ⟨c, A', hd⟩ := end_ex A d.space
    exact ⟨A', do_end h hok hn hd⟩
  | 3, _ =>
    obtain ⟨c, A', hd⟩ := lay_ex A d.space d.from_ d.to_ (some (d.rt.w, d.rt.x, false))
    exact ⟨A', do_map h hok hn hd⟩
  | 4, _ =>
    obtain ⟨c, A', hd⟩ := lay_ex A d.space d.from_ d.to_ (some (d.rt.w, d.rt.x, false))
    exact ⟨A', do_map4 h hok hn hd⟩
  | 5, _ =>
    obtain ⟨c, A', hd⟩ := lay_ex A d.space d.from_ d.to_ none
    exact ⟨A', do_unmap h hok hn hd⟩
  | 6, _ =>
    obtain ⟨c, A', hd⟩ := chg_ex A d.space d.from_ d.to_ (fun p => (d.rt.w, d.rt.x, p.2.2))
    exact ⟨A', do_protect h hok hn hd⟩
  | 7, _ =>
    obtain ⟨c, A', hd⟩ := chg_ex A d.space d.from_ d.to_ (fun p => (p.1, p.2.1, d.huge))
    exact ⟨A', do_advise h hok hn hd⟩
  | 8, _ =>
    obtain ⟨c, hd⟩ := run_ex' A d.space d.from_
    exact ⟨A, do_run h hok hn hd⟩
  | 9, _ =>
    obtain ⟨c, A', hd⟩ := store_ex A d.space d.from_ d.i d.v
    exact ⟨A', do_store h hok hn (Or.inl rfl) hd⟩
  | 10, _ =>
    obtain ⟨c, A', hd⟩ := store_ex A d.space d.from_ d.i d.v
    exact ⟨A', do_store h hok hn (Or.inr rfl) hd⟩
/-- Both worlds, at their start. -/
theorem model_new (w : World) : Bec (fun _ => False) w (FmT w.heap.size (fun _ => none)) (w.alloc (.cells #[.slice none 0 0] 29)) := by
  have b := box_new w 29 #[.slice none 0 0]
  have hb := new_below w (.cells #[.slice none 0 0] 29)
  have r : Bec (fun _ => False) (w.alloc (.cells #[.slice none 0 0] 29)) (.row rSp (.slice none 0 0) (heads [])) (w.alloc (.cells #[.slice none 0 0] 29)) := row_new (Row.nil rSp _ _) (Below.refl _ _)
  have e := emp_new (w.alloc (.cells #[.slice none 0 0] 29))
  have h := ((b.new r).new e)
  refine h.imp fun {G W} h => ?_
  refine ⟨(.slice none 0 0, []), ⟨rfl, fun n s h => (by cases h), ?_⟩, ?_⟩
  · unfold nodT
    simp
  · exact and_left _ _ _ (and_assoc _ _ _ (and_comm _ _ h))
theorem both_new {w w1 : World} {p : Nat} (h : Bec (fun _ => False) w (FlT p (fun _ => none)) w1) :
    Bec (fun _ => False) w ((FlT p (fun _ => none)).and (FmT w1.heap.size (fun _ => none))) (w1.alloc (.cells #[.slice none 0 0] 29)) :=
  (h.new (model_new w1)).imp (and_comm _ _)
/-- Both worlds are there, since w. -/
def Plays (w : World) (p q : Nat) (W : World) : Prop := ∃ A, Bec (fun _ => False) w ((FlT p A).and (FmT q A)) W
theorem Plays.new {w w1 : World} {p : Nat} (h : Bec (fun _ => False) w (FlT p (fun _ => none)) w1) : Plays w p w1.heap.size (w1.alloc (.cells #[.slice none 0 0] 29)) := ⟨_, both_new h⟩
theorem Plays.next {w W W' : World} {p q : Nat} (h : Plays w p q W) (hb : Below W.heap.size W W') : Plays w p q W' := by
  obtain ⟨A, h⟩ := h
  exact ⟨A, h.below hb⟩
theorem Plays.base {w w1 W : World} {p q : Nat} (hb : Below w.heap.size w w1) (h : Plays w1 p q W) : Plays w p q W := by
  obtain ⟨A, h⟩ := h
  exact ⟨A, h.base hb⟩
theorem Plays.frame {w W : World} {p q : Nat} (h : Plays w p q W) : Below w.heap.size w W := by
  obtain ⟨A, h⟩ := h
  exact h.frame
def PlP (w : World) (p q : Nat) (e : Ending) (W : World) : Prop := e = .returned (.bool true) ∧ Hid (Plays w p q W)
theorem Plays.deed {w W : World} {p q : Nat} (h : Plays w p q W) {d : FDd} (hok : d.ok) :
    Calls Try.prog 10 #[.pointer (some ⟨p, 0, none⟩), .pointer (some ⟨q, 0, none⟩), .agg d.arr] W (PlP w p q) := by
  obtain ⟨A, h⟩ := h
  obtain ⟨G, h1, cl⟩ := h.next
  obtain ⟨A', hd⟩ := do_any h1 hok
  exact hd.mono fun e w' hp => ⟨hp.1, A', cl hp.2⟩
/-- How many spaces the document's world lists. -/
theorem Plays.list {w W : World} {p q : Nat} (h : Plays w p q W) : ∃ ao len c, len ≤ 255 ∧ W.cell? ⟨q, 0, none⟩ = some (.slice ao len c) := by
  obtain ⟨A, h⟩ := h
  obtain ⟨G, h1, -⟩ := h.next
  obtain ⟨T, v, h2⟩ := two_of h1
  obtain ⟨G2, hm⟩ := h2.fm
  obtain ⟨ao, cT, rfl⟩ := (FmX.row hm).form
  rw [heads_len] at hm
  exact ⟨ao, _, cT, h2.ok.few, by rw [(FmX.box hm).cell]; rfl⟩
end Go.Proofs.Ytoimmapdkapheaa
