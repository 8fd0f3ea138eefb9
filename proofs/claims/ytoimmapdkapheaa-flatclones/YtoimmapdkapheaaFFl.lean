/- The program's world of spaces: how it lies; its small functions. -/
import Derived.Test.YtoimmapdkapheaaFDel
import Derived.Test.YtoimmapdkapheaaZMap2
namespace Go.Proofs.Ytoimmapdkapheaa
set_option maxRecDepth 4000
open Go.RowKit

theorem zero_pp (w : World) : (zeroValue 80).run Try.prog w = .ok (.pointer none) w := by
  obtain ⟨i0, hi, hz0, hz1, hz2⟩ := info_parts (P := Try.prog) (e := 80) (z := .pointer none) (size := 1) (bytes := 8) (by kernel_rfl)
  simp [zeroValue, typeInfo, hi, hz0]
/-- Spaces, and where their pages lie. -/
def spM : Mk Try.prog Int (Nat × Sp) := { t := 66, k := 3, e := 80, key := fun k => .int .i64 k, val := fun x => .pointer (some ⟨x.1, 0, none⟩), ok := okI, law := intKeyed, ht := Try.underlying66, inj := i_inj, reads := i_reads }
abbrev Spl := List (Int × (Nat × Sp))
def lkP (l : Spl) : Wd := fun n => (getL l n).map (·.2)
theorem lk_put (l : Spl) (n : Int) (x : Nat × Sp) : lkP (putL l n x) = (lkP l).set n (some x.2) := by
  funext k
  unfold lkP Wd.set
  rw [getL_put]
  by_cases e : k = n <;> simp [e]
theorem lk_dele (l : Spl) (n : Int) : lkP (delL l n) = (lkP l).set n none := by
  funext k
  unfold lkP Wd.set
  rw [getL_del]
  by_cases e : k = n <;> simp [e]
def ptrO (o : Option (Nat × Sp)) : Value := .pointer (o.map fun x => ⟨x.1, 0, none⟩)
theorem get_sp {w : World} {m : Nat} {l : Spl} (h : Mp spM w m l) {n : Int} (hn : okI n) : (Instr.lookup 66 (.map (some m)) (.int .i64 n) false).run Try.prog w = .ok (ptrO (getL l n)) w := by
  have := h.get hn (zero_pp w)
  unfold ptrO
  cases e : getL l n <;> rw [e] at this <;> exact this
def pgs (l : Spl) : List Th := l.map fun x => PgT x.2.1 x.2.2
def FlX (p m : Nat) (l : Spl) : Th := (Th.mp spM m l).and ((Th.box p 68 #[.map (some m)]).and (Th.all (pgs l)))
/-- A world of spaces of the program's. -/
def FlT (p : Nat) (A : Wd) : Th := Th.ex fun d : Nat × Spl => Th.when (lkP d.2 = A ∧ A.ok) (FlX p d.1 d.2)
theorem FlX.mp {F : Nat → Prop} {w : World} {p m : Nat} {l : Spl} (h : (FlX p m l).In F w) : Mp spM w m l := by
  obtain ⟨_, _, _, _, h1, _⟩ := h
  exact h1.2
theorem FlX.box {F : Nat → Prop} {w : World} {p m : Nat} {l : Spl} (h : (FlX p m l).In F w) : Laid w p 68 #[.map (some m)] := by
  obtain ⟨_, _, _, _, _, _, _, _, _, h1, _⟩ := h
  exact h1.2
theorem pgs_mid (l1 l2 : Spl) (n : Int) (x : Nat × Sp) : pgs (l1 ++ (n, x) :: l2) = pgs l1 ++ PgT x.1 x.2 :: pgs l2 := by simp [pgs]
theorem pgs_app (l1 l2 : Spl) : pgs (l1 ++ l2) = pgs l1 ++ pgs l2 := by simp [pgs]
/-- One of the spaces in front. -/
theorem fl_pick (p m : Nat) (l1 l2 : Spl) (n : Int) (x : Nat × Sp) (l : Spl) (hl : l = l1 ++ (n, x) :: l2) :
    (FlX p m l).le ((PgT x.1 x.2).and ((Th.mp spM m l).and ((Th.box p 68 #[.map (some m)]).and (Th.all (pgs (l1 ++ l2)))))) := fun {F w} h => by
  refine and_left _ _ _ (and_mono (Th.le.refl _) (Th.le.trans (and_mono (Th.le.refl _) ?_) (and_left _ _ _)) h)
  rw [hl, pgs_mid, pgs_app]
  exact all_pick _ _ _
theorem fl_put (p m : Nat) (l1 l2 : Spl) (n : Int) (x : Nat × Sp) (l : Spl) (hl : l = l1 ++ (n, x) :: l2) :
    ((PgT x.1 x.2).and ((Th.mp spM m l).and ((Th.box p 68 #[.map (some m)]).and (Th.all (pgs (l1 ++ l2)))))).le (FlX p m l) := fun {F w} h => by
  refine and_mono (Th.le.refl _) (Th.le.trans (and_left _ _ _) (and_mono (Th.le.refl _) ?_)) (and_left _ _ _ h)
  rw [hl, pgs_mid, pgs_app]
  exact all_put _ _ _
theorem mp_look {m : Nat} {l l' : Spl} (e : l.map (fun q => (spM.key q.1, spM.val q.2)) = l'.map fun q => (spM.key q.1, spM.val q.2)) : (Th.mp spM m l).le (Th.mp spM m l') := fun {F w} h => by
  exact ⟨h.1, Mp.turn h.2 e⟩
theorem fl_open {F : Nat → Prop} {w : World} {p m : Nat} {l : Spl} {n : Int} {g : Nat} {s : Sp} (h : (FlX p m l).In F w) (hok : (lkP l).ok) (hg : getL l n = some (g, s)) :
    ∃ G, (PgT g s).In G w ∧ ∀ {s' : Sp} {w' : World}, s'.ok → Bec G w (PgT g s') w' → Bec F w (FlT p ((lkP l).set n (some s'))) w' := by
  obtain ⟨l1, l2, hl⟩ := List.append_of_mem (getL_mem hg)
  have hd := (FlX.mp h).apart
  rw [hl] at hd
  obtain ⟨G, h1, h2⟩ := In.open (fl_pick p m l1 l2 n (g, s) l hl h)
  refine ⟨G, h1, fun {s' w'} hs' hb => (h2 hb).imp fun {F' w''} k => ?_⟩
  have hn : okN n := (hok n s (by unfold lkP; rw [hg]; rfl)).1
  refine ⟨(m, l1 ++ (n, (g, s')) :: l2), ⟨?_, hok.set hn hs'⟩, fl_put p m l1 l2 n (g, s') _ rfl (and_mono (Th.le.refl _) (and_mono (mp_look ?_) (Th.le.refl _)) k)⟩
  · show lkP (l1 ++ (n, (g, s')) :: l2) = _
    rw [← lk_put l n (g, s'), hl, putL_mid hd]
  · rw [hl]
    simp [spM]
/-- Only read. -/
theorem fl_see {F : Nat → Prop} {w : World} {p m : Nat} {l : Spl} {n : Int} {g : Nat} {s : Sp} (h : (FlX p m l).In F w) (hg : getL l n = some (g, s)) : ∃ G, (PgT g s).In G w := by
  obtain ⟨l1, l2, hl⟩ := List.append_of_mem (getL_mem hg)
  obtain ⟨G, h1, _⟩ := In.open (fl_pick p m l1 l2 n (g, s) l hl h)
  exact ⟨G, h1⟩

def errV (c : Int) : Value := if c = 0 then .nilIface else .iface 48 (.int .i64 c)
theorem errV0 : errV 0 = .nilIface := rfl
theorem errV_ne {c : Int} (h : c ≠ 0) : errV c = .iface 48 (.int .i64 c) := if_neg h
def mayNB (n : Int) : Bool := decide (1 ≤ n) && decide (n ≤ 255)
theorem mayNB_iff (n : Int) : mayNB n = true ↔ okN n := by simp [mayNB, okN]
set_option maxHeartbeats 400000 in
theorem mayN_any (n : Int) (w : World) : Calls Try.prog 40 #[.int .i64 n] w fun e w' => e = .returned (.bool (mayNB n)) ∧ w' = w := by
  by_cases h1 : 1 ≤ n
  · rw [show mayNB n = decide (n ≤ 255) by simp [mayNB, h1]]
    go_enter Try.func40, Try.ntmps40
    go_wp2
    go_ret
    exact ⟨rfl, rfl⟩
  · rw [show mayNB n = false by simp [mayNB, h1]]
    go_enter Try.func40, Try.ntmps40
    go_wp2
    go_ret
    exact ⟨rfl, rfl⟩
section
variable {w : World} {p m : Nat} {l : Spl} {n : Int}
set_option maxHeartbeats 400000 in
theorem has_any (h1 : Laid w p 68 #[.map (some m)]) (h2 : Mp spM w m l) (hn : okI n) : Calls Try.prog 41 #[.pointer (some ⟨p, 0, none⟩), .int .i64 n] w fun e w' => e = .returned (.bool (getL l n).isSome) ∧ w' = w := by
  have c0 : w.cell? ⟨p, 0, none⟩ = some (.map (some m)) := by rw [h1.cell]; rfl
  have hg := get_sp h2 hn
  clear h1 h2
  cases e : getL l n with
  | none =>
    rw [e] at hg
    unfold ptrO at hg
    simp only [Option.map_none] at hg
    go_enter Try.func41, Try.ntmps41
    go_wp2
    go_ret
    exact ⟨rfl, rfl⟩
  | some x =>
    rw [e] at hg
    unfold ptrO at hg
    simp only [Option.map_some] at hg
    go_enter Try.func41, Try.ntmps41
    go_wp2
    go_ret
    exact ⟨rfl, rfl⟩
def ofR (o : Option (Nat × Sp)) : Value := match o with
  | none => .tuple #[.pointer none, .iface 48 (.int .i64 3)]
  | some x => .tuple #[.pointer (some ⟨x.1, 0, none⟩), .nilIface]
set_option maxHeartbeats 400000 in
theorem ofp_any (h1 : Laid w p 68 #[.map (some m)]) (h2 : Mp spM w m l) (hn : okI n) : Calls Try.prog 37 #[.pointer (some ⟨p, 0, none⟩), .int .i64 n] w fun e w' => e = .returned (ofR (getL l n)) ∧ w' = w := by
  have c0 : w.cell? ⟨p, 0, none⟩ = some (.map (some m)) := by rw [h1.cell]; rfl
  have hg := get_sp h2 hn
  have hh := has_any h1 h2 hn
  clear h1 h2
  cases e : getL l n with
  | none =>
    rw [e] at hg hh
    unfold ptrO at hg
    simp only [Option.map_none, Option.isSome_none] at hg hh
    go_enter Try.func37, Try.ntmps37
    go_wp2_with fail
    refine hh.mono ?_
    rintro e w1 ⟨rfl, hw⟩
    obtain rfl := hw.symm
    clear hw
    go_wp2
    go_ret2
    exact ⟨rfl, rfl⟩
  | some x =>
    rw [e] at hg hh
    unfold ptrO at hg
    simp only [Option.map_some, Option.isSome_some] at hg hh
    go_enter Try.func37, Try.ntmps37
    go_wp2_with fail
    refine hh.mono ?_
    rintro e w1 ⟨rfl, hw⟩
    obtain rfl := hw.symm
    clear hw
    go_wp2
    go_ret2
    exact ⟨rfl, rfl⟩
end
end Go.Proofs.Ytoimmapdkapheaa
