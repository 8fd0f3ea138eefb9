/- A deed done to both worlds of spaces. -/
import Derived.Test.YtoimmapdkapheaaFDd
import Derived.Test.YtoimmapdkapheaaFPick
import Derived.Test.YtoimmapdkapheaaFChg
import Derived.Test.YtoimmapdkapheaaFAt
import Derived.Test.YtoimmapdkapheaaFUm
import Derived.Test.YtoimmapdkapheaaFRun
namespace Go.Proofs.Ytoimmapdkapheaa
set_option maxRecDepth 4000
open Go.RowKit

/-- A deed in a box, and both worlds. -/
def Tri (b : Nat) (d : FDd) (X Y : Th) : Th := (Th.box b 34 d.arr).and (X.and Y)
section
variable {F : Nat → Prop} {w W : World} {b : Nat} {d : FDd} {X Y : Th}
theorem tri_new (h : (X.and Y).In F w) (d : FDd) : Bec F w (Tri w.heap.size d X Y) (w.alloc (.cells d.arr 34)) := (Bec.refl h).new (box_new w _ _)
theorem Bec.fl (h : Bec F w (Tri b d X Y) W) : ∃ G, X.In G W ∧ ∀ {X' : Th} {w' : World}, Bec G W X' w' → Bec F w (Tri b d X' Y) w' := by
  obtain ⟨G, h1, h2⟩ := (h.imp (and_left _ _ _)).open
  exact ⟨G, h1, fun k => (h2 k).imp (and_left _ _ _)⟩
theorem Bec.fm (h : Bec F w (Tri b d X Y) W) : ∃ G, Y.In G W ∧ ∀ {Y' : Th} {w' : World}, Bec G W Y' w' → Bec F w (Tri b d X Y') w' := by
  obtain ⟨G, h1, h2⟩ := (h.imp (Th.le.trans (and_mono (Th.le.refl _) (and_comm _ _)) (and_left _ _ _))).open
  exact ⟨G, h1, fun k => (h2 k).imp (Th.le.trans (and_left _ _ _) (and_mono (Th.le.refl _) (and_comm _ _)))⟩
theorem Bec.tri_box (h : Bec F w (Tri b d X Y) W) : Laid W b 34 d.arr := by
  obtain ⟨_, _, ⟨_, _, _, _, h1, _⟩, _⟩ := h
  exact h1.2
end
theorem deed_cells {w : World} {b : Nat} {a0 a1 a2 a3 a4 : Int} {a5 a6 a7 : Bool} {a8 : Int} {a9 : Nat} (h : Laid w b 34 #[.int .i64 a0, .int .i64 a1, .int .i64 a2, .int .i64 a3, .int .i64 a4, .bool a5, .bool a6, .bool a7, .int .i64 a8, .int .u64 a9]) :
    w.cell? ⟨b, 0, none⟩ = some (.int .i64 a0) ∧ w.cell? ⟨b, 1, none⟩ = some (.int .i64 a1) ∧ w.cell? ⟨b, 2, none⟩ = some (.int .i64 a2) ∧ w.cell? ⟨b, 3, none⟩ = some (.int .i64 a3) ∧ w.cell? ⟨b, 4, none⟩ = some (.int .i64 a4) ∧ w.cell? ⟨b, 5, none⟩ = some (.bool a5) ∧ w.cell? ⟨b, 6, none⟩ = some (.bool a6) ∧ w.cell? ⟨b, 7, none⟩ = some (.bool a7) ∧ w.cell? ⟨b, 8, none⟩ = some (.int .i64 a8) ∧ w.cell? ⟨b, 9, none⟩ = some (.int .u64 a9) :=
  ⟨h.cell 0, h.cell 1, h.cell 2, h.cell 3, h.cell 4, h.cell 5, h.cell 6, h.cell 7, h.cell 8, h.cell 9⟩
theorem code_err (c : Int) (w : World) (h : 0 ≤ c ∧ c ≤ 8) : Calls Try.prog 23 #[errV c] w fun e w' => e = .returned (.int .i64 c) ∧ w' = w := by
  by_cases e : c = 0
  · subst e
    exact code_nil w
  · rw [errV_ne e]
    obtain ⟨k, rfl⟩ : ∃ k : Nat, c = k := ⟨c.toNat, by omega⟩
    exact code_any k w (by omega) (by omega)
theorem MakeD.code {A A' : Wd} {n c : Int} (h : MakeD A n c A') : 0 ≤ c ∧ c ≤ 8 := by
  rcases h with ⟨_, rfl, _⟩ | ⟨_, _, rfl, _⟩ | ⟨_, _, rfl, _⟩ <;> omega
theorem ForkD.code {A A' : Wd} {n m c : Int} (h : ForkD A n m c A') : 0 ≤ c ∧ c ≤ 8 := by
  rcases h with ⟨_, rfl, _⟩ | ⟨_, _, rfl, _⟩ | ⟨_, _, _, rfl, _⟩ | ⟨_, _, _, _, rfl, _⟩ <;> omega
theorem EndD.code {A A' : Wd} {n c : Int} (h : EndD A n c A') : 0 ≤ c ∧ c ≤ 8 := by
  rcases h with ⟨_, rfl, _⟩ | ⟨_, rfl, _⟩ <;> omega
theorem LayD.code {A A' : Wd} {n a b c : Int} {t : Option Pg} (h : LayD A n a b t c A') : 0 ≤ c ∧ c ≤ 8 := by
  rcases h with ⟨_, rfl, _⟩ | ⟨_, _, ⟨_, rfl, _⟩ | ⟨_, _, _, ⟨_, rfl, _⟩ | ⟨_, rfl, _⟩⟩⟩ <;> omega
theorem ChgD.code {A A' : Wd} {n a b c : Int} {t : Pg → Pg} (h : ChgD A n a b t c A') : 0 ≤ c ∧ c ≤ 8 := by
  rcases h with ⟨_, rfl, _⟩ | ⟨_, _, ⟨_, rfl, _⟩ | ⟨_, _, rfl, _⟩ | ⟨_, _, _, _, ⟨_, rfl, _⟩ | ⟨_, rfl, _⟩⟩⟩ <;> omega
theorem AtD.code {A : Wd} {n p i c : Int} (h : AtD A n p i c) : 0 ≤ c ∧ c ≤ 8 := by
  rcases h with ⟨_, rfl⟩ | ⟨_, _, ⟨_, rfl⟩ | ⟨_, _, _, rfl⟩ | ⟨_, _, _, rfl⟩⟩ <;> omega
def DoP (F : Nat → Prop) (w : World) (p q : Nat) (A' : Wd) (e : Ending) (w' : World) : Prop := e = .returned (.bool true) ∧ Bec F w ((FlT p A').and (FmT q A')) w'
def margs_make (q : Nat) (d : FDd) : Array Value := #[.pointer (some ⟨q, 0, none⟩), .int .i64 d.space]
def margs_fork (q : Nat) (d : FDd) : Array Value := #[.pointer (some ⟨q, 0, none⟩), .int .i64 d.space, .int .i64 d.other]
def margs_end (q : Nat) (d : FDd) : Array Value := #[.pointer (some ⟨q, 0, none⟩), .int .i64 d.space]
def margs_map (q : Nat) (d : FDd) : Array Value := #[.pointer (some ⟨q, 0, none⟩), .int .i64 d.space, .int .i64 d.from_, .int .i64 d.to_, .agg #[.bool true, .bool d.rt.w, .bool d.rt.x, .bool false]]
def margs_map4 (q : Nat) (d : FDd) : Array Value := margs_map q d
def margs_unmap (q : Nat) (d : FDd) : Array Value := #[.pointer (some ⟨q, 0, none⟩), .int .i64 d.space, .int .i64 d.from_, .int .i64 d.to_, .agg #[.bool false, .bool false, .bool false, .bool false]]
def margs_protect (q : Nat) (d : FDd) : Array Value := #[.pointer (some ⟨q, 0, none⟩), .int .i64 d.space, .int .i64 d.from_, .int .i64 d.to_, .bool true, .agg #[.bool d.rt.w, .bool d.rt.x], .bool false]
def margs_advise (q : Nat) (d : FDd) : Array Value := #[.pointer (some ⟨q, 0, none⟩), .int .i64 d.space, .int .i64 d.from_, .int .i64 d.to_, .bool false, .agg #[.bool d.rt.w, .bool d.rt.x], .bool d.huge]
set_option maxRecDepth 100000 in
set_option maxHeartbeats 8000000 in
theorem do_make {F : Nat → Prop} {w : World} {p q : Nat} {A A' : Wd} {d : FDd} {code : Int} (h : ((FlT p A).and (FmT q A)).In F w) (hok : d.ok) (hk : pickN d.what 11 = 0) (hd : MakeD A d.space code A') :
    Calls Try.prog 10 #[.pointer (some ⟨p, 0, none⟩), .pointer (some ⟨q, 0, none⟩), .agg d.arr] w (DoP F w p q A') := by
  have hcd : 0 ≤ code ∧ code ≤ 8 := MakeD.code hd
  have HD : Hid (MakeD A d.space code A') := hd
  have hpk := fun w => pick_any d.what 11 w hok.1.1 hok.1.2 (by omega) (by omega)
  rw [hk] at hpk
  have H0 : Hid (Bec F w (Tri w.heap.size d (FlT p A) (FmT q A)) (w.alloc (.cells d.arr 34))) := tri_new h d
  obtain ⟨F1, f1, fcl⟩ := H0.out.fl
  have hf := make_any f1 hok.2.1 HD.out
  have HF : Hid (∀ w', Bec F1 (w.alloc (.cells d.arr 34)) (FlT p A') w' → Bec F w (Tri w.heap.size d (FlT p A') (FmT q A)) w') := fun w' hb => fcl hb
  have hm : ∀ w1, Bec F w (Tri w.heap.size d (FlT p A') (FmT q A)) w1 → Calls Try.prog 26 (margs_make q d) w1 (fun e w2 => e = .returned (.int .i64 code) ∧ Hid (Bec F w (Tri w.heap.size d (FlT p A') (FmT q A')) w2)) := fun w1 hb => by
    obtain ⟨F2, m1, mcl⟩ := hb.fm
    exact (rmake_any m1 HD.out).mono fun e w2 hp => ⟨hp.1, mcl hp.2⟩
  have hce := fun w => code_err code w hcd
  obtain ⟨a0, a1, a2, a3, a4, ⟨a5, a6⟩, a7, a8, a9⟩ := d
  have HX : Hid (∀ X Y w1, Bec F w (Tri w.heap.size ⟨a0, a1, a2, a3, a4, ⟨a5, a6⟩, a7, a8, a9⟩ X Y) w1 → Laid w1 w.heap.size 34 #[.int .i64 a0, .int .i64 a1, .int .i64 a2, .int .i64 a3, .int .i64 a4, .bool a5, .bool a6, .bool a7, .int .i64 a8, .int .u64 a9]) := fun X Y w1 hb => hb.tri_box
  unfold FDd.arr at *
  unfold margs_make at hm
  simp only at *
  clear f1 fcl H0 h hd HD hok hk hcd
  go_enter Try.func10, Try.ntmps10
  go_wp2_with fail
  refine (hpk _).mono ?_
  rintro e w1 ⟨rfl, hw⟩
  obtain rfl := hw.symm
  clear hw hpk
  go_wp2_with fail
  refine hf.mono ?_
  rintro e w1 ⟨rfl, hb1⟩
  have hb1' := HF.out _ hb1
  have hm1 := hm _ hb1'
  obtain ⟨x0, x1, x2, x3, x4, x5, x6, x7, x8, x9⟩ := deed_cells (HX.out _ _ _ hb1')
  clear hb1 hb1' hm HF hf
  generalize hev : errV code = ev at *
  go_wp2_with fail
  refine hm1.mono ?_
  rintro e w2 ⟨rfl, HB2⟩
  clear hm1 x0 x1 x2 x3 x4 x5 x6 x7 x8 x9 HX
  go_wp2_with fail
  refine (hce _).mono ?_
  rintro e w3 ⟨rfl, hw⟩
  obtain rfl := hw.symm
  clear hw hce
  go_wp2
  go_ret
  exact ⟨rfl, HB2.out.right⟩
set_option maxRecDepth 100000 in
set_option maxHeartbeats 8000000 in
theorem do_fork {F : Nat → Prop} {w : World} {p q : Nat} {A A' : Wd} {d : FDd} {code : Int} (h : ((FlT p A).and (FmT q A)).In F w) (hok : d.ok) (hk : pickN d.what 11 = 1) (hd : ForkD A d.space d.other code A') :
    Calls Try.prog 10 #[.pointer (some ⟨p, 0, none⟩), .pointer (some ⟨q, 0, none⟩), .agg d.arr] w (DoP F w p q A') := by
  have hcd : 0 ≤ code ∧ code ≤ 8 := ForkD.code hd
  have HD : Hid (ForkD A d.space d.other code A') := hd
  have hpk := fun w => pick_any d.what 11 w hok.1.1 hok.1.2 (by omega) (by omega)
  rw [hk] at hpk
  have H0 : Hid (Bec F w (Tri w.heap.size d (FlT p A) (FmT q A)) (w.alloc (.cells d.arr 34))) := tri_new h d
  obtain ⟨F1, f1, fcl⟩ := H0.out.fl
  have hf := fork_any f1 hok.2.1 HD.out
  have HF : Hid (∀ w', Bec F1 (w.alloc (.cells d.arr 34)) (FlT p A') w' → Bec F w (Tri w.heap.size d (FlT p A') (FmT q A)) w') := fun w' hb => fcl hb
  have hm : ∀ w1, Bec F w (Tri w.heap.size d (FlT p A') (FmT q A)) w1 → Calls Try.prog 27 (margs_fork q d) w1 (fun e w2 => e = .returned (.int .i64 code) ∧ Hid (Bec F w (Tri w.heap.size d (FlT p A') (FmT q A')) w2)) := fun w1 hb => by
    obtain ⟨F2, m1, mcl⟩ := hb.fm
    exact (rfork_any m1 HD.out).mono fun e w2 hp => ⟨hp.1, mcl hp.2⟩
  have hce := fun w => code_err code w hcd
  obtain ⟨a0, a1, a2, a3, a4, ⟨a5, a6⟩, a7, a8, a9⟩ := d
  have HX : Hid (∀ X Y w1, Bec F w (Tri w.heap.size ⟨a0, a1, a2, a3, a4, ⟨a5, a6⟩, a7, a8, a9⟩ X Y) w1 → Laid w1 w.heap.size 34 #[.int .i64 a0, .int .i64 a1, .int .i64 a2, .int .i64 a3, .int .i64 a4, .bool a5, .bool a6, .bool a7, .int .i64 a8, .int .u64 a9]) := fun X Y w1 hb => hb.tri_box
  unfold FDd.arr at *
  unfold margs_fork at hm
  simp only at *
  clear f1 fcl H0 h hd HD hok hk hcd
  go_enter Try.func10, Try.ntmps10
  go_wp2_with fail
  refine (hpk _).mono ?_
  rintro e w1 ⟨rfl, hw⟩
  obtain rfl := hw.symm
  clear hw hpk
  go_wp2_with fail
  refine hf.mono ?_
  rintro e w1 ⟨rfl, hb1⟩
  have hb1' := HF.out _ hb1
  have hm1 := hm _ hb1'
  obtain ⟨x0, x1, x2, x3, x4, x5, x6, x7, x8, x9⟩ := deed_cells (HX.out _ _ _ hb1')
  clear hb1 hb1' hm HF hf
  generalize hev : errV code = ev at *
  go_wp2_with fail
  refine hm1.mono ?_
  rintro e w2 ⟨rfl, HB2⟩
  clear hm1 x0 x1 x2 x3 x4 x5 x6 x7 x8 x9 HX
  go_wp2_with fail
  refine (hce _).mono ?_
  rintro e w3 ⟨rfl, hw⟩
  obtain rfl := hw.symm
  clear hw hce
  go_wp2
  go_ret
  exact ⟨rfl, HB2.out.right⟩
set_option maxRecDepth 100000 in
set_option maxHeartbeats 8000000 in
theorem do_end {F : Nat → Prop} {w : World} {p q : Nat} {A A' : Wd} {d : FDd} {code : Int} (h : ((FlT p A).and (FmT q A)).In F w) (hok : d.ok) (hk : pickN d.what 11 = 2) (hd : EndD A d.space code A') :
    Calls Try.prog 10 #[.pointer (some ⟨p, 0, none⟩), .pointer (some ⟨q, 0, none⟩), .agg d.arr] w (DoP F w p q A') := by
  have hcd : 0 ≤ code ∧ code ≤ 8 := EndD.code hd
  have HD : Hid (EndD A d.space code A') := hd
  have hpk := fun w => pick_any d.what 11 w hok.1.1 hok.1.2 (by omega) (by omega)
  rw [hk] at hpk
  have H0 : Hid (Bec F w (Tri w.heap.size d (FlT p A) (FmT q A)) (w.alloc (.cells d.arr 34))) := tri_new h d
  obtain ⟨F1, f1, fcl⟩ := H0.out.fl
  have hf := end_any f1 hok.2.1 HD.out
  have HF : Hid (∀ w', Bec F1 (w.alloc (.cells d.arr 34)) (FlT p A') w' → Bec F w (Tri w.heap.size d (FlT p A') (FmT q A)) w') := fun w' hb => fcl hb
  have hm : ∀ w1, Bec F w (Tri w.heap.size d (FlT p A') (FmT q A)) w1 → Calls Try.prog 28 (margs_end q d) w1 (fun e w2 => e = .returned (.int .i64 code) ∧ Hid (Bec F w (Tri w.heap.size d (FlT p A') (FmT q A')) w2)) := fun w1 hb => by
    obtain ⟨F2, m1, mcl⟩ := hb.fm
    exact (rend_any m1 HD.out).mono fun e w2 hp => ⟨hp.1, mcl hp.2⟩
  have hce := fun w => code_err code w hcd
  obtain ⟨a0, a1, a2, a3, a4, ⟨a5, a6⟩, a7, a8, a9⟩ := d
  have HX : Hid (∀ X Y w1, Bec F w (Tri w.heap.size ⟨a0, a1, a2, a3, a4, ⟨a5, a6⟩, a7, a8, a9⟩ X Y) w1 → Laid w1 w.heap.size 34 #[.int .i64 a0, .int .i64 a1, .int .i64 a2, .int .i64 a3, .int .i64 a4, .bool a5, .bool a6, .bool a7, .int .i64 a8, .int .u64 a9]) := fun X Y w1 hb => hb.tri_box
  unfold FDd.arr at *
  unfold margs_end at hm
  simp only at *
  clear f1 fcl H0 h hd HD hok hk hcd
  go_enter Try.func10, Try.ntmps10
  go_wp2_with fail
  refine (hpk _).mono ?_
  rintro e w1 ⟨rfl, hw⟩
  obtain rfl := hw.symm
  clear hw hpk
  go_wp2_with fail
  refine hf.mono ?_
  rintro e w1 ⟨rfl, hb1⟩
  have hb1' := HF.out _ hb1
  have hm1 := hm _ hb1'
  obtain ⟨x0, x1, x2, x3, x4, x5, x6, x7, x8, x9⟩ := deed_cells (HX.out _ _ _ hb1')
  clear hb1 hb1' hm HF hf
  generalize hev : errV code = ev at *
  go_wp2_with fail
  refine hm1.mono ?_
  rintro e w2 ⟨rfl, HB2⟩
  clear hm1 x0 x1 x2 x3 x4 x5 x6 x7 x8 x9 HX
  go_wp2_with fail
  refine (hce _).mono ?_
  rintro e w3 ⟨rfl, hw⟩
  obtain rfl := hw.symm
  clear hw hce
  go_wp2
  go_ret
  exact ⟨rfl, HB2.out.right⟩
set_option maxRecDepth 100000 in
set_option maxHeartbeats 8000000 in
theorem do_map {F : Nat → Prop} {w : World} {p q : Nat} {A A' : Wd} {d : FDd} {code : Int} (h : ((FlT p A).and (FmT q A)).In F w) (hok : d.ok) (hk : pickN d.what 11 = 3) (hd : LayD A d.space d.from_ d.to_ (some (d.rt.w, d.rt.x, false)) code A') :
    Calls Try.prog 10 #[.pointer (some ⟨p, 0, none⟩), .pointer (some ⟨q, 0, none⟩), .agg d.arr] w (DoP F w p q A') := by
  have hcd : 0 ≤ code ∧ code ≤ 8 := LayD.code hd
  have HD : Hid (LayD A d.space d.from_ d.to_ (some (d.rt.w, d.rt.x, false)) code A') := hd
  have hpk := fun w => pick_any d.what 11 w hok.1.1 hok.1.2 (by omega) (by omega)
  rw [hk] at hpk
  have H0 : Hid (Bec F w (Tri w.heap.size d (FlT p A) (FmT q A)) (w.alloc (.cells d.arr 34))) := tri_new h d
  obtain ⟨F1, f1, fcl⟩ := H0.out.fl
  have hf := map_any f1 hok.2.1 HD.out
  have HF : Hid (∀ w', Bec F1 (w.alloc (.cells d.arr 34)) (FlT p A') w' → Bec F w (Tri w.heap.size d (FlT p A') (FmT q A)) w') := fun w' hb => fcl hb
  have hm : ∀ w1, Bec F w (Tri w.heap.size d (FlT p A') (FmT q A)) w1 → Calls Try.prog 29 (margs_map q d) w1 (fun e w2 => e = .returned (.int .i64 code) ∧ Hid (Bec F w (Tri w.heap.size d (FlT p A') (FmT q A')) w2)) := fun w1 hb => by
    obtain ⟨F2, m1, mcl⟩ := hb.fm
    exact (rlay_any m1 HD.out).mono fun e w2 hp => ⟨hp.1, mcl hp.2⟩
  have hce := fun w => code_err code w hcd
  obtain ⟨a0, a1, a2, a3, a4, ⟨a5, a6⟩, a7, a8, a9⟩ := d
  have HX : Hid (∀ X Y w1, Bec F w (Tri w.heap.size ⟨a0, a1, a2, a3, a4, ⟨a5, a6⟩, a7, a8, a9⟩ X Y) w1 → Laid w1 w.heap.size 34 #[.int .i64 a0, .int .i64 a1, .int .i64 a2, .int .i64 a3, .int .i64 a4, .bool a5, .bool a6, .bool a7, .int .i64 a8, .int .u64 a9]) := fun X Y w1 hb => hb.tri_box
  unfold FDd.arr at *
  unfold margs_map at hm
  simp only at *
  clear f1 fcl H0 h hd HD hok hk hcd
  go_enter Try.func10, Try.ntmps10
  go_wp2_with fail
  refine (hpk _).mono ?_
  rintro e w1 ⟨rfl, hw⟩
  obtain rfl := hw.symm
  clear hw hpk
  go_wp2_with fail
  refine hf.mono ?_
  rintro e w1 ⟨rfl, hb1⟩
  have hb1' := HF.out _ hb1
  have hm1 := hm _ hb1'
  obtain ⟨x0, x1, x2, x3, x4, x5, x6, x7, x8, x9⟩ := deed_cells (HX.out _ _ _ hb1')
  clear hb1 hb1' hm HF hf
  generalize hev : errV code = ev at *
  go_wp2_with fail
  refine hm1.mono ?_
  rintro e w2 ⟨rfl, HB2⟩
  clear hm1 x0 x1 x2 x3 x4 x5 x6 x7 x8 x9 HX
  go_wp2_with fail
  refine (hce _).mono ?_
  rintro e w3 ⟨rfl, hw⟩
  obtain rfl := hw.symm
  clear hw hce
  go_wp2
  go_ret
  exact ⟨rfl, HB2.out.right⟩
set_option maxRecDepth 100000 in
set_option maxHeartbeats 8000000 in
theorem do_map4 {F : Nat → Prop} {w : World} {p q : Nat} {A A' : Wd} {d : FDd} {code : Int} (h : ((FlT p A).and (FmT q A)).In F w) (hok : d.ok) (hk : pickN d.what 11 = 4) (hd : LayD A d.space d.from_ d.to_ (some (d.rt.w, d.rt.x, false)) code A') :
    Calls Try.prog 10 #[.pointer (some ⟨p, 0, none⟩), .pointer (some ⟨q, 0, none⟩), .agg d.arr] w (DoP F w p q A') := by
  have hcd : 0 ≤ code ∧ code ≤ 8 := LayD.code hd
  have HD : Hid (LayD A d.space d.from_ d.to_ (some (d.rt.w, d.rt.x, false)) code A') := hd
  have hpk := fun w => pick_any d.what 11 w hok.1.1 hok.1.2 (by omega) (by omega)
  rw [hk] at hpk
  have H0 : Hid (Bec F w (Tri w.heap.size d (FlT p A) (FmT q A)) (w.alloc (.cells d.arr 34))) := tri_new h d
  obtain ⟨F1, f1, fcl⟩ := H0.out.fl
  have hf := map_any f1 hok.2.1 HD.out
  have HF : Hid (∀ w', Bec F1 (w.alloc (.cells d.arr 34)) (FlT p A') w' → Bec F w (Tri w.heap.size d (FlT p A') (FmT q A)) w') := fun w' hb => fcl hb
  have hm : ∀ w1, Bec F w (Tri w.heap.size d (FlT p A') (FmT q A)) w1 → Calls Try.prog 29 (margs_map4 q d) w1 (fun e w2 => e = .returned (.int .i64 code) ∧ Hid (Bec F w (Tri w.heap.size d (FlT p A') (FmT q A')) w2)) := fun w1 hb => by
    obtain ⟨F2, m1, mcl⟩ := hb.fm
    exact (rlay_any m1 HD.out).mono fun e w2 hp => ⟨hp.1, mcl hp.2⟩
  have hce := fun w => code_err code w hcd
  obtain ⟨a0, a1, a2, a3, a4, ⟨a5, a6⟩, a7, a8, a9⟩ := d
  have HX : Hid (∀ X Y w1, Bec F w (Tri w.heap.size ⟨a0, a1, a2, a3, a4, ⟨a5, a6⟩, a7, a8, a9⟩ X Y) w1 → Laid w1 w.heap.size 34 #[.int .i64 a0, .int .i64 a1, .int .i64 a2, .int .i64 a3, .int .i64 a4, .bool a5, .bool a6, .bool a7, .int .i64 a8, .int .u64 a9]) := fun X Y w1 hb => hb.tri_box
  unfold FDd.arr at *
  unfold margs_map4 margs_map at hm
  simp only at *
  clear f1 fcl H0 h hd HD hok hk hcd
  go_enter Try.func10, Try.ntmps10
  go_wp2_with fail
  refine (hpk _).mono ?_
  rintro e w1 ⟨rfl, hw⟩
  obtain rfl := hw.symm
  clear hw hpk
  go_wp2_with fail
  refine hf.mono ?_
  rintro e w1 ⟨rfl, hb1⟩
  have hb1' := HF.out _ hb1
  have hm1 := hm _ hb1'
  obtain ⟨x0, x1, x2, x3, x4, x5, x6, x7, x8, x9⟩ := deed_cells (HX.out _ _ _ hb1')
  clear hb1 hb1' hm HF hf
  generalize hev : errV code = ev at *
  go_wp2_with fail
  refine hm1.mono ?_
  rintro e w2 ⟨rfl, HB2⟩
  clear hm1 x0 x1 x2 x3 x4 x5 x6 x7 x8 x9 HX
  go_wp2_with fail
  refine (hce _).mono ?_
  rintro e w3 ⟨rfl, hw⟩
  obtain rfl := hw.symm
  clear hw hce
  go_wp2
  go_ret
  exact ⟨rfl, HB2.out.right⟩
set_option maxRecDepth 100000 in
set_option maxHeartbeats 8000000 in
theorem do_unmap {F : Nat → Prop} {w : World} {p q : Nat} {A A' : Wd} {d : FDd} {code : Int} (h : ((FlT p A).and (FmT q A)).In F w) (hok : d.ok) (hk : pickN d.what 11 = 5) (hd : LayD A d.space d.from_ d.to_ none code A') :
    Calls Try.prog 10 #[.pointer (some ⟨p, 0, none⟩), .pointer (some ⟨q, 0, none⟩), .agg d.arr] w (DoP F w p q A') := by
  have hcd : 0 ≤ code ∧ code ≤ 8 := LayD.code hd
  have HD : Hid (LayD A d.space d.from_ d.to_ none code A') := hd
  have hpk := fun w => pick_any d.what 11 w hok.1.1 hok.1.2 (by omega) (by omega)
  rw [hk] at hpk
  have H0 : Hid (Bec F w (Tri w.heap.size d (FlT p A) (FmT q A)) (w.alloc (.cells d.arr 34))) := tri_new h d
  obtain ⟨F1, f1, fcl⟩ := H0.out.fl
  have hf := unmap_any f1 hok.2.1 HD.out
  have HF : Hid (∀ w', Bec F1 (w.alloc (.cells d.arr 34)) (FlT p A') w' → Bec F w (Tri w.heap.size d (FlT p A') (FmT q A)) w') := fun w' hb => fcl hb
  have hm : ∀ w1, Bec F w (Tri w.heap.size d (FlT p A') (FmT q A)) w1 → Calls Try.prog 29 (margs_unmap q d) w1 (fun e w2 => e = .returned (.int .i64 code) ∧ Hid (Bec F w (Tri w.heap.size d (FlT p A') (FmT q A')) w2)) := fun w1 hb => by
    obtain ⟨F2, m1, mcl⟩ := hb.fm
    exact (rlay_any m1 HD.out).mono fun e w2 hp => ⟨hp.1, mcl hp.2⟩
  have hce := fun w => code_err code w hcd
  obtain ⟨a0, a1, a2, a3, a4, ⟨a5, a6⟩, a7, a8, a9⟩ := d
  have HX : Hid (∀ X Y w1, Bec F w (Tri w.heap.size ⟨a0, a1, a2, a3, a4, ⟨a5, a6⟩, a7, a8, a9⟩ X Y) w1 → Laid w1 w.heap.size 34 #[.int .i64 a0, .int .i64 a1, .int .i64 a2, .int .i64 a3, .int .i64 a4, .bool a5, .bool a6, .bool a7, .int .i64 a8, .int .u64 a9]) := fun X Y w1 hb => hb.tri_box
  unfold FDd.arr at *
  unfold margs_unmap at hm
  simp only at *
  clear f1 fcl H0 h hd HD hok hk hcd
  go_enter Try.func10, Try.ntmps10
  go_wp2_with fail
  refine (hpk _).mono ?_
  rintro e w1 ⟨rfl, hw⟩
  obtain rfl := hw.symm
  clear hw hpk
  go_wp2_with fail
  refine hf.mono ?_
  rintro e w1 ⟨rfl, hb1⟩
  have hb1' := HF.out _ hb1
  have hm1 := hm _ hb1'
  obtain ⟨x0, x1, x2, x3, x4, x5, x6, x7, x8, x9⟩ := deed_cells (HX.out _ _ _ hb1')
  clear hb1 hb1' hm HF hf
  generalize hev : errV code = ev at *
  go_wp2_with fail
  refine hm1.mono ?_
  rintro e w2 ⟨rfl, HB2⟩
  clear hm1 x0 x1 x2 x3 x4 x5 x6 x7 x8 x9 HX
  go_wp2_with fail
  refine (hce _).mono ?_
  rintro e w3 ⟨rfl, hw⟩
  obtain rfl := hw.symm
  clear hw hce
  go_wp2
  go_ret
  exact ⟨rfl, HB2.out.right⟩
set_option maxRecDepth 100000 in
set_option maxHeartbeats 8000000 in
theorem do_protect {F : Nat → Prop} {w : World} {p q : Nat} {A A' : Wd} {d : FDd} {code : Int} (h : ((FlT p A).and (FmT q A)).In F w) (hok : d.ok) (hk : pickN d.what 11 = 6) (hd : ChgD A d.space d.from_ d.to_ (fun p => (d.rt.w, d.rt.x, p.2.2)) code A') :
    Calls Try.prog 10 #[.pointer (some ⟨p, 0, none⟩), .pointer (some ⟨q, 0, none⟩), .agg d.arr] w (DoP F w p q A') := by
  have hcd : 0 ≤ code ∧ code ≤ 8 := ChgD.code hd
  have HD : Hid (ChgD A d.space d.from_ d.to_ (fun p => (d.rt.w, d.rt.x, p.2.2)) code A') := hd
  have hpk := fun w => pick_any d.what 11 w hok.1.1 hok.1.2 (by omega) (by omega)
  rw [hk] at hpk
  have H0 : Hid (Bec F w (Tri w.heap.size d (FlT p A) (FmT q A)) (w.alloc (.cells d.arr 34))) := tri_new h d
  obtain ⟨F1, f1, fcl⟩ := H0.out.fl
  have hf := protect_any f1 hok.2.1 HD.out
  have HF : Hid (∀ w', Bec F1 (w.alloc (.cells d.arr 34)) (FlT p A') w' → Bec F w (Tri w.heap.size d (FlT p A') (FmT q A)) w') := fun w' hb => fcl hb
  have hm : ∀ w1, Bec F w (Tri w.heap.size d (FlT p A') (FmT q A)) w1 → Calls Try.prog 30 (margs_protect q d) w1 (fun e w2 => e = .returned (.int .i64 code) ∧ Hid (Bec F w (Tri w.heap.size d (FlT p A') (FmT q A')) w2)) := fun w1 hb => by
    obtain ⟨F2, m1, mcl⟩ := hb.fm
    exact (rchg_any (r := true) (x := d.rt.w) (y := d.rt.x) (z := false) m1 HD.out).mono fun e w2 hp => ⟨hp.1, mcl hp.2⟩
  have hce := fun w => code_err code w hcd
  obtain ⟨a0, a1, a2, a3, a4, ⟨a5, a6⟩, a7, a8, a9⟩ := d
  have HX : Hid (∀ X Y w1, Bec F w (Tri w.heap.size ⟨a0, a1, a2, a3, a4, ⟨a5, a6⟩, a7, a8, a9⟩ X Y) w1 → Laid w1 w.heap.size 34 #[.int .i64 a0, .int .i64 a1, .int .i64 a2, .int .i64 a3, .int .i64 a4, .bool a5, .bool a6, .bool a7, .int .i64 a8, .int .u64 a9]) := fun X Y w1 hb => hb.tri_box
  unfold FDd.arr at *
  unfold margs_protect at hm
  simp only at *
  clear f1 fcl H0 h hd HD hok hk hcd
  go_enter Try.func10, Try.ntmps10
  go_wp2_with fail
  refine (hpk _).mono ?_
  rintro e w1 ⟨rfl, hw⟩
  obtain rfl := hw.symm
  clear hw hpk
  go_wp2_with fail
  refine hf.mono ?_
  rintro e w1 ⟨rfl, hb1⟩
  have hb1' := HF.out _ hb1
  have hm1 := hm _ hb1'
  obtain ⟨x0, x1, x2, x3, x4, x5, x6, x7, x8, x9⟩ := deed_cells (HX.out _ _ _ hb1')
  clear hb1 hb1' hm HF hf
  generalize hev : errV code = ev at *
  go_wp2_with fail
  refine hm1.mono ?_
  rintro e w2 ⟨rfl, HB2⟩
  clear hm1 x0 x1 x2 x3 x4 x5 x6 x7 x8 x9 HX
  go_wp2_with fail
  refine (hce _).mono ?_
  rintro e w3 ⟨rfl, hw⟩
  obtain rfl := hw.symm
  clear hw hce
  go_wp2
  go_ret
  exact ⟨rfl, HB2.out.right⟩
set_option maxRecDepth 100000 in
set_option maxHeartbeats 8000000 in
theorem do_advise {F : Nat → Prop} {w : World} {p q : Nat} {A A' : Wd} {d : FDd} {code : Int} (h : ((FlT p A).and (FmT q A)).In F w) (hok : d.ok) (hk : pickN d.what 11 = 7) (hd : ChgD A d.space d.from_ d.to_ (fun p => (p.1, p.2.1, d.huge)) code A') :
    Calls Try.prog 10 #[.pointer (some ⟨p, 0, none⟩), .pointer (some ⟨q, 0, none⟩), .agg d.arr] w (DoP F w p q A') := by
  have hcd : 0 ≤ code ∧ code ≤ 8 := ChgD.code hd
  have HD : Hid (ChgD A d.space d.from_ d.to_ (fun p => (p.1, p.2.1, d.huge)) code A') := hd
  have hpk := fun w => pick_any d.what 11 w hok.1.1 hok.1.2 (by omega) (by omega)
  rw [hk] at hpk
  have H0 : Hid (Bec F w (Tri w.heap.size d (FlT p A) (FmT q A)) (w.alloc (.cells d.arr 34))) := tri_new h d
  obtain ⟨F1, f1, fcl⟩ := H0.out.fl
  have hf := fadvise_any f1 hok.2.1 HD.out
  have HF : Hid (∀ w', Bec F1 (w.alloc (.cells d.arr 34)) (FlT p A') w' → Bec F w (Tri w.heap.size d (FlT p A') (FmT q A)) w') := fun w' hb => fcl hb
  have hm : ∀ w1, Bec F w (Tri w.heap.size d (FlT p A') (FmT q A)) w1 → Calls Try.prog 30 (margs_advise q d) w1 (fun e w2 => e = .returned (.int .i64 code) ∧ Hid (Bec F w (Tri w.heap.size d (FlT p A') (FmT q A')) w2)) := fun w1 hb => by
    obtain ⟨F2, m1, mcl⟩ := hb.fm
    exact (rchg_any (r := false) (x := d.rt.w) (y := d.rt.x) (z := d.huge) m1 HD.out).mono fun e w2 hp => ⟨hp.1, mcl hp.2⟩
  have hce := fun w => code_err code w hcd
  obtain ⟨a0, a1, a2, a3, a4, ⟨a5, a6⟩, a7, a8, a9⟩ := d
  have HX : Hid (∀ X Y w1, Bec F w (Tri w.heap.size ⟨a0, a1, a2, a3, a4, ⟨a5, a6⟩, a7, a8, a9⟩ X Y) w1 → Laid w1 w.heap.size 34 #[.int .i64 a0, .int .i64 a1, .int .i64 a2, .int .i64 a3, .int .i64 a4, .bool a5, .bool a6, .bool a7, .int .i64 a8, .int .u64 a9]) := fun X Y w1 hb => hb.tri_box
  unfold FDd.arr at *
  unfold margs_advise at hm
  simp only at *
  clear f1 fcl H0 h hd HD hok hk hcd
  go_enter Try.func10, Try.ntmps10
  go_wp2_with fail
  refine (hpk _).mono ?_
  rintro e w1 ⟨rfl, hw⟩
  obtain rfl := hw.symm
  clear hw hpk
  go_wp2_with fail
  refine hf.mono ?_
  rintro e w1 ⟨rfl, hb1⟩
  have hb1' := HF.out _ hb1
  have hm1 := hm _ hb1'
  obtain ⟨x0, x1, x2, x3, x4, x5, x6, x7, x8, x9⟩ := deed_cells (HX.out _ _ _ hb1')
  clear hb1 hb1' hm HF hf
  generalize hev : errV code = ev at *
  go_wp2_with fail
  refine hm1.mono ?_
  rintro e w2 ⟨rfl, HB2⟩
  clear hm1 x0 x1 x2 x3 x4 x5 x6 x7 x8 x9 HX
  go_wp2_with fail
  refine (hce _).mono ?_
  rintro e w3 ⟨rfl, hw⟩
  obtain rfl := hw.symm
  clear hw hce
  go_wp2
  go_ret
  exact ⟨rfl, HB2.out.right⟩
end Go.Proofs.Ytoimmapdkapheaa
