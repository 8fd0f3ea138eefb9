/- New, Make, End. -/
import Derived.Test.YtoimmapdkapheaaFFl
namespace Go.Proofs.Ytoimmapdkapheaa
set_option maxRecDepth 4000
open Go.RowKit

theorem nil_and {α : Type} (R : Rec α) (X : Th) : X.le ((Th.row R (.slice none 0 0) []).and X) := fun {F w} h =>
  ⟨fun _ => False, F, fun c => by simp, fun _ h _ => h, ⟨fun c => by simp [Value.ownBlock], Row.nil _ _ _⟩, h⟩
theorem new_fits (wb : Nat) : (PgL.mk (.slice none 0 0) [] wb []).fits newS :=
  ⟨newS_ok, ⟨trivial, fun _ _ _ => rfl⟩, Nat.zero_le _, fun _ _ _ _ _ => rfl⟩
theorem pg_new (w : World) : Bec (fun _ => False) w (PgT (w.heap.size + 1) newS) ((w.alloc (.map #[] 0)).alloc (.cells (pgC (.slice none 0 0) w.heap.size) 85)) := by
  have a : Bec (fun _ => False) w (.mp wordM w.heap.size []) (w.alloc (.map #[] 0)) := mp_new (Mp.made wordM w) (Nat.le_refl _) (new_below _ _)
  have b := box_new (w.alloc (.map #[] 0)) 85 (pgC (.slice none 0 0) w.heap.size)
  rw [heap_alloc2_rAAr] at b
  exact (a.new b).imp fun {F' w'} k => ⟨_, new_fits w.heap.size, and_mono (Th.le.refl _) (nil_and _ _) k⟩
/-- One more space. -/
theorem fl_add (p m : Nat) (l : Spl) (n : Int) (x : Nat × Sp) :
    ((Th.mp spM m (l ++ [(n, x)])).and ((PgT x.1 x.2).and ((Th.box p 68 #[.map (some m)]).and (Th.all (pgs l))))).le (FlX p m (l ++ [(n, x)])) := fun {F w} h => by
  refine and_mono (Th.le.refl _) (Th.le.trans (and_left _ _ _) (and_mono (Th.le.refl _) ?_)) h
  rw [pgs_app]
  exact all_snoc _ _
theorem fl_new {F : Nat → Prop} {w w1 : World} {p m : Nat} {l : Spl} {n : Int} {g : Nat} {s : Sp} (h : (FlX p m l).In F w) (hok : (lkP l).ok) (hn : okN n) (hs : s.ok) (hg : getL l n = none) (hb : Bec (fun _ => False) w (PgT g s) w1) :
    ∃ w', (Instr.mapUpdate 66 (.map (some m)) (.int .i64 n) (.pointer (some ⟨g, 0, none⟩))).run Try.prog w1 = .ok () w' ∧ Bec F w (FlT p ((lkP l).set n (some s))) w' ∧ w1.mapTurned w' m := by
  have hm := (FlX.mp h).same (hb.frame.block m (FlX.mp h).lt)
  obtain ⟨w', h1, h2, h3⟩ := hm.store (M := spM) (a := n) ⟨by have := hn.1; omega, by have := hn.2; omega⟩ (g, s)
  refine ⟨w', h1, ?_, h3⟩
  have k1 : Bec F w ((PgT g s).and (FlX p m l)) w1 := (Bec.refl h).new hb
  have k2 := k1.imp (and_left _ _ _)
  obtain ⟨G, k3, k4⟩ := k2.open
  have k5 := k4 (mp_turn k3 h2 h3)
  rw [putL_new (getL_none' hg)] at k5
  refine k5.imp fun {F' w'} k => ⟨(m, l ++ [(n, (g, s))]), ⟨?_, hok.set hn hs⟩, fl_add p m l n (g, s) k⟩
  show lkP (l ++ [(n, (g, s))]) = _
  rw [← putL_new (getL_none' hg), lk_put]
theorem fl_end {F : Nat → Prop} {w : World} {p m : Nat} {l : Spl} {n : Int} {x : Nat × Sp} (h : (FlX p m l).In F w) (hok : (lkP l).ok) (hn : okI n) (hg : getL l n = some x) (ty : TypeId) :
    ∃ w', (Builtin.delete_ #[66, 3] ty #[.map (some m), .int .i64 n]).run Try.prog w = .ok (.tuple #[]) w' ∧ Bec F w (FlT p ((lkP l).set n none)) w' := by
  obtain ⟨w', h1, h2, h3⟩ := (FlX.mp h).drop (M := spM) (a := n) hn ty
  refine ⟨w', h1, ?_⟩
  obtain ⟨l1, l2, hl⟩ := List.append_of_mem (getL_mem hg)
  have hd := (FlX.mp h).apart
  rw [hl] at hd
  have k1 := (Bec.refl (fl_pick p m l1 l2 n x l hl h)).imp (and_left _ _ _)
  obtain ⟨G, k3, k4⟩ := k1.open
  have k5 := ((k4 (mp_turn k3 h2 h3)).imp (and_left _ _ _)).right
  refine k5.imp fun {F' w'} k => ⟨(m, delL l n), ⟨lk_dele l n, hok.del n⟩, ?_⟩
  show (FlX p m (delL l n)).In F' w'
  rw [hl, delL_mid hd] at k ⊢
  exact k
section
variable {F : Nat → Prop} {w : World} {p : Nat} {A A' : Wd} {n code : Int}
def FlP (F : Nat → Prop) (w : World) (p : Nat) (A' : Wd) (code : Int) (e : Ending) (w' : World) : Prop := e = .returned (errV code) ∧ Bec F w (FlT p A') w'
theorem lk_none' {l : Spl} {n : Int} : lkP l n = none ↔ getL l n = none := by
  unfold lkP
  rw [Option.map_eq_none_iff]
theorem lk_some {l : Spl} {n : Int} {s : Sp} (h : lkP l n = some s) : ∃ g, getL l n = some (g, s) := by
  unfold lkP at h
  obtain ⟨⟨g, t⟩, h1, h2⟩ := Option.map_eq_some_iff.1 h
  exact ⟨g, by rw [h1]; rw [← h2]⟩
set_option maxHeartbeats 1000000 in
theorem make_any (h : (FlT p A).In F w) (hn : okI n) (hd : MakeD A n code A') : Calls Try.prog 25 #[.pointer (some ⟨p, 0, none⟩), .int .i64 n] w (FlP F w p A' code) := by
  have HR : Hid (Bec F w (FlT p A) w) := Bec.refl h
  obtain ⟨⟨m, l⟩, ⟨rfl, hok⟩, h⟩ := h
  simp only at h hok HR hd
  have hM := mayN_any n
  have hh := has_any (FlX.box h) (FlX.mp h) hn
  have c0 : w.cell? ⟨p, 0, none⟩ = some (.map (some m)) := by rw [(FlX.box h).cell]; rfl
  have lp := (FlX.box h).lt
  rcases hd with ⟨h1, rfl, rfl⟩ | ⟨h1, h2, rfl, rfl⟩ | ⟨h1, h2, rfl, rfl⟩
  · rw [show mayNB n = false by rw [← Bool.not_eq_true, mayNB_iff]; exact h1] at hM
    clear hh h1 hok h c0 lp
    go_enter Try.func25, Try.ntmps25
    go_wp2_with fail
    refine (hM _).mono ?_
    rintro e w1 ⟨rfl, hw⟩
    obtain rfl := hw.symm
    clear hw
    go_wp2
    go_ret
    exact ⟨rfl, HR.out⟩
  · rw [show mayNB n = true by rw [mayNB_iff]; exact h1] at hM
    rw [show (getL l n).isSome = true by rw [Option.isSome_iff_ne_none]; exact fun e => h2 (lk_none'.2 e)] at hh
    clear h1 hok h c0 lp h2
    go_enter Try.func25, Try.ntmps25
    go_wp2_with fail
    refine (hM _).mono ?_
    rintro e w1 ⟨rfl, hw⟩
    obtain rfl := hw.symm
    clear hw
    go_wp2_with fail
    refine hh.mono ?_
    rintro e w1 ⟨rfl, hw⟩
    obtain rfl := hw.symm
    clear hw
    go_wp2
    go_ret
    exact ⟨rfl, HR.out⟩
  · rw [show mayNB n = true by rw [mayNB_iff]; exact h1] at hM
    rw [lk_none'.1 h2, Option.isSome_none] at hh
    obtain ⟨w', hrun, hbec, -⟩ := fl_new h hok h1 newS_ok (lk_none'.1 h2) (pg_new w)
    unfold pgC at hrun
    have hmm := @run_makeMap Try.prog
    have HB : Hid _ := hbec
    clear h1 hok h h2 hbec HR
    go_enter Try.func25, Try.ntmps25
    go_wp2_with fail
    refine (hM _).mono ?_
    rintro e w1 ⟨rfl, hw⟩
    obtain rfl := hw.symm
    clear hw
    go_wp2_with fail
    refine hh.mono ?_
    rintro e w1 ⟨rfl, hw⟩
    obtain rfl := hw.symm
    clear hw
    go_wp2
    go_ret
    exact ⟨rfl, HB.out⟩
set_option maxHeartbeats 1000000 in
theorem end_any (h : (FlT p A).In F w) (hn : okI n) (hd : EndD A n code A') : Calls Try.prog 15 #[.pointer (some ⟨p, 0, none⟩), .int .i64 n] w (FlP F w p A' code) := by
  have HR : Hid (Bec F w (FlT p A) w) := Bec.refl h
  obtain ⟨⟨m, l⟩, ⟨rfl, hok⟩, h⟩ := h
  simp only at h hok HR hd
  have hh := has_any (FlX.box h) (FlX.mp h) hn
  have c0 : w.cell? ⟨p, 0, none⟩ = some (.map (some m)) := by rw [(FlX.box h).cell]; rfl
  rcases hd with ⟨h1, rfl, rfl⟩ | ⟨h1, rfl, rfl⟩
  · rw [lk_none'.1 h1, Option.isSome_none] at hh
    clear h1 hok h c0
    go_enter Try.func15, Try.ntmps15
    go_wp2_with fail
    refine hh.mono ?_
    rintro e w1 ⟨rfl, hw⟩
    obtain rfl := hw.symm
    clear hw
    go_wp2
    go_ret
    exact ⟨rfl, HR.out⟩
  · obtain ⟨x, hx⟩ := Option.isSome_iff_exists.1 (Option.isSome_iff_ne_none.2 fun e => h1 (lk_none'.2 e))
    rw [hx, Option.isSome_some] at hh
    have hdel := fun ty => fl_end h hok hn hx ty
    clear h1 hok h hx HR
    go_enter Try.func15, Try.ntmps15
    go_wp2_with fail
    refine hh.mono ?_
    rintro e w1 ⟨rfl, hw⟩
    obtain rfl := hw.symm
    clear hw
    obtain ⟨w', hrun, hbec⟩ := hdel 0
    have HB : Hid _ := hbec
    clear hbec hdel
    go_wp2
    go_ret
    exact ⟨rfl, HB.out⟩
end
theorem wd_emp : lkP [] = fun _ => none := rfl
set_option maxHeartbeats 1000000 in
theorem new_any (w : World) : Calls Try.prog 8 #[] w fun e w' => ∃ p, e = .returned (.pointer (some ⟨p, 0, none⟩)) ∧ Bec (fun _ => False) w (FlT p (fun _ => none)) w' := by
  have a : Bec (fun _ => False) w (.mp spM w.heap.size []) (w.alloc (.map #[] 0)) := mp_new (Mp.made spM w) (Nat.le_refl _) (new_below _ _)
  have b := box_new (w.alloc (.map #[] 0)) 68 #[.map (some w.heap.size)]
  rw [heap_alloc2_rAAr] at b
  have HB : Hid (Bec (fun _ => False) w (FlT (w.heap.size + 1) (fun _ => none)) ((w.alloc (.map #[] 0)).alloc (.cells #[.map (some w.heap.size)] 68))) :=
    (a.new b).imp fun {F' w'} k => ⟨(w.heap.size, []), ⟨rfl, emp_ok⟩, and_mono (Th.le.refl _) (emp_and _) (and_comm _ _ k)⟩
  have hmm := @run_makeMap Try.prog
  clear a b
  go_enter Try.func8, Try.ntmps8
  go_wp2
  go_ret
  exact ⟨_, rfl, HB.out⟩
end Go.Proofs.Ytoimmapdkapheaa
