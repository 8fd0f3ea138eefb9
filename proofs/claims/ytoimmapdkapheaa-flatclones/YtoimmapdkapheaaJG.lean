/- Own texts, joined: FMk, FCl, FFk, FLay, FMap, FUm, FFind, FSt, FRun. -/
import Derived.Test.YtoimmapdkapheaaJF
import Derived.Shelf.SlMaps.Clone
import Derived.Test.YtoimmapdkapheaaJD
/- New, Make, End. -/
namespace Go.Proofs.Ytoimmapdkapheaa
set_option maxRecDepth 4000
open Go.RowKit

theorem nil_and {α : Type} (R : Rec α) (X : Th) : X.le ((Th.row R (.slice none 0 0) []).and X) := fun {F w} h =>
  ⟨fun _ => False, F, fun c => by simp, fun _ h _ => h, ⟨fun c => by simp [Value.ownBlock], Row.nil _ _ _⟩, h⟩
theorem new_fits (wb : Nat) : (PgL.mk (.slice none 0 0) [] wb []).fits newS :=
  ⟨newS_ok, ⟨trivial, fun _ _ _ => rfl⟩, Nat.zero_le _, fun _ _ _ _ _ => rfl⟩
theorem pg_new (w : World) : Bec (fun _ => False) w (PgT (w.heap.size + 1) newS) ((w.alloc (.map #[] 0)).alloc (.cells (pgC (.slice none 0 0) w.heap.size) 85)) := by
  have a : Bec (fun _ => False) w (.mp wordM w.heap.size []) (w.alloc (.map #[] 0)) := mp_new (Mp.made wordM w) (Nat.le_refl _) (new_below _ _)
  have b := box_new (w.alloc (.map #[] 0)) 85 (pgC (.slice none 0 0) w.heap.size)
  rw [heap_alloc2_rAAr] at b
  exact (a.new b).imp fun {F' w'} k => ⟨_, new_fits w.heap.size, and_mono (Th.le.refl _) (nil_and _ _) k⟩
/-- One more space. -/
theorem fl_add (p m : Nat) (l : Spl) (n : Int) (x : Nat × Sp) :
    ((Th.mp spM m (l ++ [(n, x)])).and ((PgT x.1 x.2).and ((Th.box p 68 #[.map (some m)]).and (Th.all (pgs l))))).le (FlX p m (l ++ [(n, x)])) := fun {F w} h => by
  refine and_mono (Th.le.refl _) (Th.le.trans (and_left _ _ _) (and_mono (Th.le.refl _) ?_)) h
  rw [pgs_app]
  exact all_snoc _ _
theorem fl_new {F : Nat → Prop} {w w1 : World} {p m : Nat} {l : Spl} {n : Int} {g : Nat} {s : Sp} (h : (FlX p m l).In F w) (hok : (lkP l).ok) (hn : okN n) (hs : s.ok) (hg : getL l n = none) (hb : Bec (fun _ => False) w (PgT g s) w1) :
    ∃ w', (Instr.mapUpdate 66 (.map (some m)) (.int .i64 n) (.pointer (some ⟨g, 0, none⟩))).run Try.prog w1 = .ok () w' ∧ Bec F w (FlT p ((lkP l).set n (some s))) w' ∧ w1.mapTurned w' m := by
  have hm := (FlX.mp h).same (hb.frame.block m (FlX.mp h).lt)
  obtain ⟨w', h1, h2, h3⟩ := hm.store (M := spM) (a := n) ⟨by have := hn.1; omega, by have := hn.2; omega⟩ (g, s)
  refine ⟨w', h1, ?_, h3⟩
  have k1 : Bec F w ((PgT g s).and (FlX p m l)) w1 := (Bec.refl h).new hb
  have k2 := k1.imp (and_left _ _ _)
  obtain ⟨G, k3, k4⟩ := k2.open
  have k5 := k4 (mp_turn k3 h2 h3)
  rw [putL_new (getL_none' hg)] at k5
  refine k5.imp fun {F' w'} k => ⟨(m, l ++ [(n, (g, s))]), ⟨?_, hok.set hn hs⟩, fl_add p m l n (g, s) k⟩
  show lkP (l ++ [(n, (g, s))]) = _
  rw [← putL_new (getL_none' hg), lk_put]
theorem fl_end {F : Nat → Prop} {w : World} {p m : Nat} {l : Spl} {n : Int} {x : Nat × Sp} (h : (FlX p m l).In F w) (hok : (lkP l).ok) (hn : okI n) (hg : getL l n = some x) (ty : TypeId) :
    ∃ w', (Builtin.delete_ #[66, 3] ty #[.map (some m), .int .i64 n]).run Try.prog w = .ok (.tuple #[]) w' ∧ Bec F w (FlT p ((lkP l).set n none)) w' := by
  obtain ⟨w', h1, h2, h3⟩ := (FlX.mp h).drop (M := spM) (a := n) hn ty
  refine ⟨w', h1, ?_⟩
  obtain ⟨l1, l2, hl⟩ := List.append_of_mem (getL_mem hg)
  have hd := (FlX.mp h).apart
  rw [hl] at hd
  have k1 := (Bec.refl (fl_pick p m l1 l2 n x l hl h)).imp (and_left _ _ _)
  obtain ⟨G, k3, k4⟩ := k1.open
  have k5 := ((k4 (mp_turn k3 h2 h3)).imp (and_left _ _ _)).right
  refine k5.imp fun {F' w'} k => ⟨(m, delL l n), ⟨lk_dele l n, hok.del n⟩, ?_⟩
  show (FlX p m (delL l n)).In F' w'
  rw [hl, delL_mid hd] at k ⊢
  exact k
section
variable {F : Nat → Prop} {w : World} {p : Nat} {A A' : Wd} {n code : Int}
def FlP (F : Nat → Prop) (w : World) (p : Nat) (A' : Wd) (code : Int) (e : Ending) (w' : World) : Prop := e = .returned (errV code) ∧ Bec F w (FlT p A') w'
theorem lk_none' {l : Spl} {n : Int} : lkP l n = none ↔ getL l n = none := by
  unfold lkP
  rw [Option.map_eq_none_iff]
theorem lk_some {l : Spl} {n : Int} {s : Sp} (h : lkP l n = some s) : ∃ g, getL l n = some (g, s) := by
  unfold lkP at h
  obtain ⟨⟨g, t⟩, h1, h2⟩ := Option.map_eq_some_iff.1 h
  exact ⟨g, by rw [h1]; rw [← h2]⟩
set_option maxHeartbeats 1000000 in
theorem make_any (h : (FlT p A).In F w) (hn : okI n) (hd : MakeD A n code A') : Calls Try.prog 25 #[.pointer (some ⟨p, 0, none⟩), .int .i64 n] w (FlP F w p A' code) := by
  have HR : Hid (Bec F w (FlT p A) w) := Bec.refl h
  obtain ⟨⟨m, l⟩, ⟨rfl, hok⟩, h⟩ := h
  simp only at h hok HR hd
  have hM := mayN_any n
  have hh := has_any (FlX.box h) (FlX.mp h) hn
  have c0 : w.cell? ⟨p, 0, none⟩ = some (.map (some m)) := by rw [(FlX.box h).cell]; rfl
  have lp := (FlX.box h).lt
  rcases hd with ⟨h1, rfl, rfl⟩ | ⟨h1, h2, rfl, rfl⟩ | ⟨h1, h2, rfl, rfl⟩
  · rw [show mayNB n = false by rw [← Bool.not_eq_true, mayNB_iff]; exact h1] at hM
    clear hh h1 hok h c0 lp
    go_enter Try.func25, Try.ntmps25
    go_wp2_with fail
    refine (hM _).mono ?_
    rintro e w1 ⟨rfl, hw⟩
    obtain rfl := hw.symm
    clear hw
    go_wp2
    go_ret
    exact ⟨rfl, HR.out⟩
  · rw [show mayNB n = true by rw [mayNB_iff]; exact h1] at hM
    rw [show (getL l n).isSome = true by rw [Option.isSome_iff_ne_none]; exact fun e => h2 (lk_none'.2 e)] at hh
    clear h1 hok h c0 lp h2
    go_enter Try.func25, Try.ntmps25
    go_wp2_with fail
    refine (hM _).mono ?_
    rintro e w1 ⟨rfl, hw⟩
    obtain rfl := hw.symm
    clear hw
    go_wp2_with fail
    refine hh.mono ?_
    rintro e w1 ⟨rfl, hw⟩
    obtain rfl := hw.symm
    clear hw
    go_wp2
    go_ret
    exact ⟨rfl, HR.out⟩
  · rw [show mayNB n = true by rw [mayNB_iff]; exact h1] at hM
    rw [lk_none'.1 h2, Option.isSome_none] at hh
    obtain ⟨w', hrun, hbec, -⟩ := fl_new h hok h1 newS_ok (lk_none'.1 h2) (pg_new w)
    unfold pgC at hrun
    have hmm := @run_makeMap Try.prog
    have HB : Hid _ := hbec
    clear h1 hok h h2 hbec HR
    go_enter Try.func25, Try.ntmps25
    go_wp2_with fail
    refine (hM _).mono ?_
    rintro e w1 ⟨rfl, hw⟩
    obtain rfl := hw.symm
    clear hw
    go_wp2_with fail
    refine hh.mono ?_
    rintro e w1 ⟨rfl, hw⟩
    obtain rfl := hw.symm
    clear hw
    go_wp2
    go_ret
    exact ⟨rfl, HB.out⟩
set_option maxHeartbeats 1000000 in
theorem end_any (h : (FlT p A).In F w) (hn : okI n) (hd : EndD A n code A') : Calls Try.prog 15 #[.pointer (some ⟨p, 0, none⟩), .int .i64 n] w (FlP F w p A' code) := by
  have HR : Hid (Bec F w (FlT p A) w) := Bec.refl h
  obtain ⟨⟨m, l⟩, ⟨rfl, hok⟩, h⟩ := h
  simp only at h hok HR hd
  have hh := has_any (FlX.box h) (FlX.mp h) hn
  have c0 : w.cell? ⟨p, 0, none⟩ = some (.map (some m)) := by rw [(FlX.box h).cell]; rfl
  rcases hd with ⟨h1, rfl, rfl⟩ | ⟨h1, rfl, rfl⟩
  · rw [lk_none'.1 h1, Option.isSome_none] at hh
    clear h1 hok h c0
    go_enter Try.func15, Try.ntmps15
    go_wp2_with fail
    refine hh.mono ?_
    rintro e w1 ⟨rfl, hw⟩
    obtain rfl := hw.symm
    clear hw
    go_wp2
    go_ret
    exact ⟨rfl, HR.out⟩
  · obtain ⟨x, hx⟩ := Option.isSome_iff_exists.1 (Option.isSome_iff_ne_none.2 fun e => h1 (lk_none'.2 e))
    rw [hx, Option.isSome_some] at hh
    have hdel := fun ty => fl_end h hok hn hx ty
    clear h1 hok h hx HR
    go_enter Try.func15, Try.ntmps15
    go_wp2_with fail
    refine hh.mono ?_
    rintro e w1 ⟨rfl, hw⟩
    obtain rfl := hw.symm
    clear hw
    obtain ⟨w', hrun, hbec⟩ := hdel 0
    have HB : Hid _ := hbec
    clear hbec hdel
    go_wp2
    go_ret
    exact ⟨rfl, HB.out⟩
end
theorem wd_emp : lkP [] = fun _ => none := rfl
set_option maxHeartbeats 1000000 in
theorem new_any (w : World) : Calls Try.prog 8 #[] w fun e w' => ∃ p, e = .returned (.pointer (some ⟨p, 0, none⟩)) ∧ Bec (fun _ => False) w (FlT p (fun _ => none)) w' := by
  have a : Bec (fun _ => False) w (.mp spM w.heap.size []) (w.alloc (.map #[] 0)) := mp_new (Mp.made spM w) (Nat.le_refl _) (new_below _ _)
  have b := box_new (w.alloc (.map #[] 0)) 68 #[.map (some w.heap.size)]
  rw [heap_alloc2_rAAr] at b
  have HB : Hid (Bec (fun _ => False) w (FlT (w.heap.size + 1) (fun _ => none)) ((w.alloc (.map #[] 0)).alloc (.cells #[.map (some w.heap.size)] 68))) :=
    (a.new b).imp fun {F' w'} k => ⟨(w.heap.size, []), ⟨rfl, emp_ok⟩, and_mono (Th.le.refl _) (emp_and _) (and_comm _ _ k)⟩
  have hmm := @run_makeMap Try.prog
  clear a b
  go_enter Try.func8, Try.ntmps8
  go_wp2
  go_ret
  exact ⟨_, rfl, HB.out⟩
end Go.Proofs.Ytoimmapdkapheaa
/- Pages cloned; Fork. -/
namespace Go.Proofs.Ytoimmapdkapheaa
set_option maxRecDepth 4000
open Go.RowKit

set_option maxHeartbeats 2000000 in
theorem mclone_any {w : World} {b : Nat} {es : Array MapEntry} {clock : Nat} (hb : w.heap[b]? = some (.map es clock)) :
    Calls Try.prog 57 #[.map (some b)] w fun e w' => e = .returned (.map (some w.heap.size)) ∧ w' = w.alloc (.map es clock) := by
  have hq := fun w => run_eql_map_nil_sl (P := Try.prog) w 83 _ _ (some b) Try.underlying83
  go_enter Try.func57, Try.ntmps57
  go_wp2
  rw [run_callFunc_extern Try.func71 (by kernel_rfl) (by kernel_rfl) (by kernel_rfl) (e := Extern.MapsClone.clone) (by kernel_rfl), run_maps_clone_sl w 83 hb]
  simp only [Result.andThen]
  rw [Oper.upon_value]
  go_wp2
  rw [run_typeAssert_map_sl _ 83 20 _ _ _ Try.underlying83]
  simp only [Result.andThen]
  rw [Oper.upon_value]
  go_wp2
  go_ret
  exact ⟨rfl, rfl⟩
theorem pg_copy {w W : World} {v v' : Value} {M : List AAr} {wb : Nat} {l : Wds} {s : Sp} {es : Array MapEntry} {clock : Nat} (hf : (PgL.mk v M wb l).fits s) (hb : Below w.heap.size w W) (hr : Row rAAr w.heap.size W v' M) (hm : Mp wordM (W.alloc (.map es clock)) W.heap.size l) :
    Bec (fun _ => False) w (PgT (W.heap.size + 1) s) ((W.alloc (.map es clock)).alloc (.cells (pgC v' W.heap.size) 85)) := by
  have a : Bec (fun _ => False) w (.row rAAr v' M) W := row_new hr hb
  have b := a.new (mp_new hm (Nat.le_refl _) (new_below _ _))
  have c := box_new (W.alloc (.map es clock)) 85 (pgC v' W.heap.size)
  rw [heap_alloc2_rAAr] at c
  exact (b.new c).imp fun {F' w'} k => ⟨⟨v', M, W.heap.size, l⟩, ⟨hf.ok, hf.can, hf.few, hf.wds⟩, and_mono (Th.le.refl _) (and_comm _ _) k⟩
def PClP (w : World) (s : Sp) (e : Ending) (w' : World) : Prop := ∃ g, e = .returned (.pointer (some ⟨g, 0, none⟩)) ∧ Bec (fun _ => False) w (PgT g s) w'
/-- Behind the areas' clone: the words' map, and what will lie there. -/
def ClOp (w : World) (g wb : Nat) (v : Value) (s : Sp) (e : Ending) (w2 : World) : Prop :=
  ∃ ao n c es clock, e = .returned (.slice ao n c) ∧ w2.heap[wb]? = some (.map es clock) ∧ (w2.cell? ⟨g, 0, none⟩ = some v ∧ w2.cell? ⟨g, 1, none⟩ = some (.map (some wb))) ∧ g < w2.heap.size ∧
    Hid (Bec (fun _ => False) w (PgT (w2.heap.size + 1) s) ((w2.alloc (.map es clock)).alloc (.cells #[.slice ao n c, .map (some w2.heap.size)] 85)))
set_option maxRecDepth 100000 in
set_option maxHeartbeats 4000000 in
theorem pclone_any {F : Nat → Prop} {w : World} {g : Nat} {s : Sp} (h : (PgT g s).In F w) : Calls Try.prog 42 #[.pointer (some ⟨g, 0, none⟩)] w (PClP w s) := by
  obtain ⟨⟨v, M, wb, l⟩, hf, h⟩ := h
  obtain ⟨h1, h2, h3⟩ := pgx_in h
  simp only at h1 h2 h3
  have c0 : w.cell? ⟨g, 0, none⟩ = some v := by rw [h1.cell]; rfl
  have c1 : w.cell? ⟨g, 1, none⟩ = some (.map (some wb)) := by rw [h1.cell]; rfl
  have lg := h1.lt
  have hcl : ∀ W, Below w.heap.size w W → Calls Try.prog 47 #[v] W (ClOp w g wb v s) := fun W hb => (clone_rAAr (h2.below hb) (by have := hf.few; simp only at this; omega)).mono fun e w2 hp => by
    obtain ⟨v', rfl, hrow, hb2⟩ := hp
    have hB : Below w.heap.size w w2 := below_call' hb hb2
    obtain ⟨ao, c, rfl⟩ := hrow.form
    obtain ⟨es, clock, k1, k2⟩ := (h3.same (hB.block _ h3.lt)).copy
    refine ⟨ao, M.length, c, es, clock, rfl, k1, ⟨?_, ?_⟩, Nat.lt_of_lt_of_le lg hB.size, pg_copy hf hB (hrow.lower hb.size) k2⟩
    · rw [World.cell?_of_block (w := w) (a := ⟨g, 0, none⟩) (hB.block g lg)]; exact c0
    · rw [World.cell?_of_block (w := w) (a := ⟨g, 1, none⟩) (hB.block g lg)]; exact c1
  obtain ⟨ao, cc, rfl⟩ := h2.form
  clear h1 h2 h3 h hf
  go_enter Try.func42, Try.ntmps42
  go_wp2_with fail
  go_region_held3 (fun w' => w'.cell? ⟨g, 0, none⟩ = some (.slice ao M.length cc) ∧ w'.cell? ⟨g, 1, none⟩ = some (.map (some wb))) (go_keep) (first | (go_at_call 47; refine (hcl _ ?q1).mono ?_; (case q1 => first | exact Below.refl _ _ | exact (Below.refl _ _).drew); rintro e w2 ⟨ao2, n2, cc2, es, clock, rfl, hwb, ⟨x0, x1⟩, hlg, HB⟩; have hc2 : ∀ o v, (w2.alloc v).cell? ⟨g, o, none⟩ = w2.cell? ⟨g, o, none⟩ := fun o v => cell_alloc_old hlg o v) | (go_at_call 57; refine (mclone_any hwb).mono ?_; rintro e w3 ⟨rfl, rfl⟩))
  go_wp2
  go_ret
  exact ⟨_, rfl, HB.out⟩
end Go.Proofs.Ytoimmapdkapheaa
/- Fork. -/
namespace Go.Proofs.Ytoimmapdkapheaa
set_option maxRecDepth 4000
open Go.RowKit

/-- Behind the pages' clone: what the map's store leaves. -/
def FkOp (F : Nat → Prop) (w : World) (p m : Nat) (n : Int) (A' : Wd) (e : Ending) (w2 : World) : Prop :=
  ∃ g w3, e = .returned (.pointer (some ⟨g, 0, none⟩)) ∧ (Instr.mapUpdate 66 (.map (some m)) (.int .i64 n) (.pointer (some ⟨g, 0, none⟩))).run Try.prog w2 = .ok () w3 ∧ w2.cell? ⟨p, 0, none⟩ = some (.map (some m)) ∧ w3.cell? ⟨p, 0, none⟩ = some (.map (some m)) ∧ Hid (Bec F w (FlT p A') w3)
set_option maxRecDepth 100000 in
set_option maxHeartbeats 4000000 in
theorem fork_any {F : Nat → Prop} {w : World} {p : Nat} {A A' : Wd} {n k code : Int} (h : (FlT p A).In F w) (hn : okI n) (hd : ForkD A n k code A') : Calls Try.prog 14 #[.pointer (some ⟨p, 0, none⟩), .int .i64 n, .int .i64 k] w (FlP F w p A' code) := by
  have HR : Hid (Bec F w (FlT p A) w) := Bec.refl h
  obtain ⟨⟨m, l⟩, ⟨rfl, hok⟩, h⟩ := h
  simp only at h hok HR hd
  have hM := mayN_any k
  have hof := ofp_any (FlX.box h) (FlX.mp h) hn
  have c0 : w.cell? ⟨p, 0, none⟩ = some (.map (some m)) := by rw [(FlX.box h).cell]; rfl
  have lp := (FlX.box h).lt
  have okk : okN k → okI k := fun h => ⟨by have := h.1; omega, by have := h.2; omega⟩
  rcases hd with ⟨h1, rfl, rfl⟩ | ⟨h1, h2, rfl, rfl⟩ | ⟨h1, h2, h3, rfl, rfl⟩ | ⟨s, h1, h2, h3, rfl, rfl⟩
  · rw [show mayNB k = false by rw [← Bool.not_eq_true, mayNB_iff]; exact h1] at hM
    clear hof h1 hok h c0 lp okk
    go_enter Try.func14, Try.ntmps14
    go_wp2_with fail
    refine (hM _).mono ?_
    rintro e w1 ⟨rfl, hw⟩
    obtain rfl := hw.symm
    clear hw
    go_wp2
    go_ret
    exact ⟨rfl, HR.out⟩
  · rw [show mayNB k = true by rw [mayNB_iff]; exact h1] at hM
    rw [lk_none'.1 h2] at hof
    unfold ofR at hof
    simp only at hof
    clear h1 hok h c0 lp okk h2
    go_enter Try.func14, Try.ntmps14
    go_wp2_with fail
    refine (hM _).mono ?_
    rintro e w1 ⟨rfl, hw⟩
    obtain rfl := hw.symm
    clear hw
    go_wp2_with fail
    refine hof.mono ?_
    rintro e w1 ⟨rfl, hw⟩
    obtain rfl := hw.symm
    clear hw
    go_wp2
    go_ret
    exact ⟨rfl, HR.out⟩
  · rw [show mayNB k = true by rw [mayNB_iff]; exact h1] at hM
    have hh := has_any (FlX.box h) (FlX.mp h) (okk h1)
    rw [show (getL l k).isSome = true by rw [Option.isSome_iff_ne_none]; exact fun e => h3 (lk_none'.2 e)] at hh
    obtain ⟨x, hx⟩ := Option.isSome_iff_exists.1 (Option.isSome_iff_ne_none.2 fun e => h2 (lk_none'.2 e))
    rw [hx] at hof
    unfold ofR at hof
    simp only at hof
    clear h1 hok h c0 lp okk h2 h3 hx
    go_enter Try.func14, Try.ntmps14
    go_wp2_with fail
    refine (hM _).mono ?_
    rintro e w1 ⟨rfl, hw⟩
    obtain rfl := hw.symm
    clear hw
    go_wp2_with fail
    refine hof.mono ?_
    rintro e w1 ⟨rfl, hw⟩
    obtain rfl := hw.symm
    clear hw
    go_wp2_with fail
    refine hh.mono ?_
    rintro e w1 ⟨rfl, hw⟩
    obtain rfl := hw.symm
    clear hw
    go_wp2
    go_ret
    exact ⟨rfl, HR.out⟩
  · rw [show mayNB k = true by rw [mayNB_iff]; exact h1] at hM
    have hh := has_any (FlX.box h) (FlX.mp h) (okk h1)
    rw [lk_none'.1 h3, Option.isSome_none] at hh
    obtain ⟨g, hx⟩ := lk_some h2
    rw [hx] at hof
    unfold ofR at hof
    simp only at hof
    have hs := (hok n s h2).2
    have hcl : ∀ W, Below w.heap.size w W → Calls Try.prog 42 #[.pointer (some ⟨g, 0, none⟩)] W (FkOp F w p m k ((lkP l).set k (some s))) := fun W hb => by
      obtain ⟨B, b1, b2⟩ := ((Bec.refl h).below hb).next
      obtain ⟨G, g1⟩ := fl_see b1 hx
      refine (pclone_any g1).mono fun e w2 hp => ?_
      obtain ⟨g', rfl, hbec⟩ := hp
      obtain ⟨w3, r1, r2, r3⟩ := fl_new b1 hok h1 hs (lk_none'.1 h3) hbec
      have hB := below_call' hb hbec.frame
      have e2 : w2.cell? ⟨p, 0, none⟩ = some (.map (some m)) := by
        rw [World.cell?_of_block (w := w) (a := ⟨p, 0, none⟩) (hB.block p lp)]
        exact c0
      refine ⟨g', w3, rfl, r1, e2, ?_, b2 r2⟩
      rw [World.cell?_of_block (w := w2) (a := ⟨p, 0, none⟩) (r3.grown.block p (Nat.lt_of_lt_of_le lp hB.size) (by simpa using ((FlX.mp h).ne (FlX.box h)).symm))]
      exact e2
    clear h1 hok h okk h2 h3 hx hs HR
    go_enter Try.func14, Try.ntmps14
    go_wp2_with fail
    refine (hM _).mono ?_
    rintro e w1 ⟨rfl, hw⟩
    obtain rfl := hw.symm
    clear hw
    go_wp2_with fail
    refine hof.mono ?_
    rintro e w1 ⟨rfl, hw⟩
    obtain rfl := hw.symm
    clear hw
    go_wp2_with fail
    refine hh.mono ?_
    rintro e w1 ⟨rfl, hw⟩
    obtain rfl := hw.symm
    clear hw hM hof hh
    go_wp2_with fail
    go_region_held3 (fun w' => w'.cell? ⟨p, 0, none⟩ = some (.map (some m))) (go_keep) (first | (go_at_call 42; refine (hcl _ ?q1).mono ?_; (case q1 => first | exact Below.refl _ _ | exact (Below.refl _ _).drew); rintro e w2 ⟨g2, w3, rfl, hrun, x0, x1, HB⟩))
    go_wp2
    go_ret
    exact ⟨rfl, HB.out⟩
end Go.Proofs.Ytoimmapdkapheaa
/- What becomes of pages under Map, Unmap, Protect, Advise. -/
namespace Go.Proofs.Ytoimmapdkapheaa
set_option maxRecDepth 4000
open Go.RowKit

section
variable {G : Nat → Prop} {w W w1 w' : World} {g wb : Nat} {v v' : Value} {M M' : List AAr} {l l' : Wds} {s : Sp} {a b : Int}
theorem mp_keep {P : Program} {α β : Type} {K : Mk P α β} {l l' : List (α × β)} {b : Nat} (h : (Th.mp K b l).In G w) (h' : Mp K w' b l') (hk : Keeps w w' (fun c => c = b)) : Bec G w (.mp K b l') w' :=
  ⟨G, fun _ h => Or.inl h, ⟨h.1, h'⟩, hk.mono fun c _ e => (h.1 c).2 e⟩
theorem pg_put (h : (PgX g ⟨v, M, wb, l⟩).In G w) (hb : Below w.heap.size w w1) (hr : Row rAAr w.heap.size w1 v' M') : Bec G w (PgX g ⟨v', M', wb, l⟩) (w1.setCell ⟨g, 0, none⟩ v') := by
  have k1 := ((Bec.refl h).new (row_new hr hb)).imp (and_left _ _ _)
  obtain ⟨A, k2, k3⟩ := k1.open
  have k4 := k3 (box_put k2 0 v')
  exact ((k4.imp (and_mono (Th.le.refl _) (and_left _ _ _))).imp (and_left _ _ _)).right
theorem pg_forget (h : (PgX g ⟨v, M, wb, l⟩).In G w) (hm : Mp wordM w' wb l') (hk : Keeps w w' (fun c => c = wb)) : Bec G w (PgX g ⟨v, M, wb, l'⟩) w' := by
  have k1 := (Bec.refl h).imp (Th.le.trans (and_mono (Th.le.refl _) (and_comm _ _)) (and_left _ _ _))
  obtain ⟨A, k2, k3⟩ := k1.open
  exact (k3 (mp_keep k2 hm hk)).imp (Th.le.trans (and_left _ _ _) (and_mono (Th.le.refl _) (and_comm _ _)))
theorem fits_lay {t : Option Pg} (hf : (PgL.mk v M wb l).fits s) (hS : SpanA a b) (hM : CanA (layA s.f a b t) M') (h4 : M'.length ≤ 64) : (PgL.mk v' M' wb (keepW a b l)).fits ⟨layA s.f a b t, wdZ s.wd a b⟩ := by
  refine ⟨layS_ok hf.ok hS hM h4, hM, h4, fun k hk hn j hj => ?_⟩
  show wdOf (keepW a b l) k j = wdZ s.wd a b k j
  unfold wdOf wdZ
  rw [keepW_get]
  by_cases c : a ≤ (k : Int) ∧ (k : Int) < b
  · rw [if_pos (show gonB a b k = true by simp [gonB, c.1, c.2]), if_pos c]
    rfl
  · rw [if_neg (show ¬ gonB a b k = true by simp [gonB]; omega), if_neg c]
    have hn' : s.f k ≠ none := by rwa [show (Sp.mk (layA s.f a b t) (wdZ s.wd a b)).f k = layA s.f a b t k from rfl, layA_out c] at hn
    exact hf.wds k hk hn' j hj
theorem fits_map {t : Pg → Pg} (hf : (PgL.mk v M wb l).fits s) (hM : CanA (mapA s.f a b t) M') (h4 : M'.length ≤ 64) : (PgL.mk v' M' wb l).fits ⟨mapA s.f a b t, s.wd⟩ := by
  refine ⟨mapS_ok hf.ok hM h4, hM, h4, fun k hk hn j hj => hf.wds k hk (fun e => hn ?_) j hj⟩
  show mapA s.f a b t k = none
  unfold mapA
  rw [e]
  split <;> rfl
theorem fits_may (hf : (PgL.mk v M wb l).fits s) : MayA M := ⟨hf.few, hf.can.1⟩
theorem fits_own (hf : (PgL.mk v M wb l).fits s) (p : Int) : ownA M p = s.f p := by
  by_cases h : 0 ≤ p ∧ p < 4096
  · exact hf.can.2 p h.1 h.2
  · rw [hf.ok.out p (by omega), nrm_own hf.can.1 (by omega)]
theorem lay_r {t : Option Pg} {r : Except Int (List AAr)} (hf : (PgL.mk v M wb l).fits s) (h : LayS M a b (layA (ownA M) a b t) r) :
    (¬ SpanA a b → r = .error 1) ∧ ∀ M', SpanA a b → CanA (layA s.f a b t) M' → r = fitR M' := by
  refine ⟨fun hn => h.elim (fun k => k.2) fun k => absurd k.1.2 hn, fun M' hS hM => ?_⟩
  rcases h with ⟨h, _⟩ | ⟨_, h⟩
  · exact absurd ⟨fits_may hf, hS⟩ h
  · have e : layA (ownA M) a b t = layA s.f a b t := by
      funext p
      unfold layA
      rw [fits_own hf]
    rw [e] at h
    exact h.uniq (fit_s hM)
theorem each_r {t : Pg → Pg} {r : Except Int (List AAr)} (hf : (PgL.mk v M wb l).fits s) (h : EachS M a b t r) :
    (¬ SpanA a b → r = .error 1) ∧ (SpanA a b → (∃ p, a ≤ p ∧ p < b ∧ s.f p = none) → r = .error 3) ∧ ∀ M', SpanA a b → (∀ p, a ≤ p → p < b → s.f p ≠ none) → CanA (mapA s.f a b t) M' → r = fitR M' := by
  refine ⟨fun hn => h.elim (fun k => k.2) fun k => k.elim (fun k => absurd k.1.2 hn) fun k => absurd k.1.2 hn, fun hS hp => ?_, fun M' hS hp hM => ?_⟩
  · rcases h with ⟨h, _⟩ | ⟨_, _, h⟩ | ⟨_, h, _⟩
    · exact absurd ⟨fits_may hf, hS⟩ h
    · exact h
    · obtain ⟨p, p1, p2, p3⟩ := hp
      exact absurd ((fits_own hf p).trans p3) (h p p1 p2)
  · rcases h with ⟨h, _⟩ | ⟨_, ⟨p, p1, p2, p3⟩, _⟩ | ⟨_, _, h⟩
    · exact absurd ⟨fits_may hf, hS⟩ h
    · exact absurd ((fits_own hf p).symm.trans p3) (hp p p1 p2)
    · have e : mapA (ownA M) a b t = mapA s.f a b t := by
        funext p
        unfold mapA
        rw [fits_own hf]
      rw [e] at h
      exact h.uniq (fit_s hM)
theorem fitR_le (h : M.length ≤ 64) : fitR M = .ok M := if_pos h
theorem fitR_gt (h : 64 < M.length) : fitR M = .error 5 := if_neg (by omega)
/-- Behind a call of layer 9: what 'become' will leave. -/
def BcOk (G : Nat → Prop) (w : World) (g wb : Nat) (v : Value) (l : Wds) (M' : List AAr) (S : World → Prop) (e : Ending) (w1 : World) : Prop :=
  ∃ ao n c, e = .returned (.tuple #[.slice ao n c, .nilIface]) ∧ S w1 ∧ Hid (Laid w1 g 85 (pgC v wb)) ∧ Hid (Bec G w (PgX g ⟨.slice ao n c, M', wb, l⟩) (w1.setCell ⟨g, 0, none⟩ (.slice ao n c)))
def BcNo (w : World) (k : Int) (S : World → Prop) (e : Ending) (w1 : World) : Prop := e = .returned (.tuple #[.slice none 0 0, .iface 48 (.int .i64 k)]) ∧ S w1 ∧ Hid (Below w.heap.size w w1)
theorem bc_ok {e : Ending} {S : World → Prop} (h : (PgX g ⟨v, M, wb, l⟩).In G w) (hb : Below w.heap.size w W) (hS : ∀ w', Below w.heap.size w w' → S w') (ht : TellW W (.ok M') e w1) : BcOk G w g wb v l M' S e w1 := by
  obtain ⟨ao, c, rfl, hr, hb1⟩ := ht
  have hB := below_call' hb hb1.out
  exact ⟨ao, M'.length, c, rfl, hS w1 hB, (pgx_in h).1.below hB, pg_put h hB (hr.out.lower hb.size)⟩
theorem bc_no {e : Ending} {k : Int} {S : World → Prop} (hb : Below w.heap.size w W) (hS : ∀ w', Below w.heap.size w w' → S w') (ht : TellW W (.error k) e w1) : BcNo w k S e w1 := ⟨ht.1, hS w1 (below_call' hb ht.2.out), below_call' hb ht.2.out⟩
end
end Go.Proofs.Ytoimmapdkapheaa
/- Map, Unmap. -/
namespace Go.Proofs.Ytoimmapdkapheaa
set_option maxRecDepth 4000
open Go.RowKit

/-- Behind 'become': the pages as they are to be, but for the words that are to go. -/
def BmOk (G : Nat → Prop) (w : World) (g wb : Nat) (l : Wds) (M' : List AAr) (a b : Int) (e : Ending) (w' : World) : Prop :=
  e = .returned (.tuple #[]) ∧ ∃ v', Hid (Bec G w (PgX g ⟨v', M', wb, keepW a b l⟩) w')
theorem forget_bc {G : Nat → Prop} {w w2 : World} {g wb : Nat} {v' : Value} {l : Wds} {M' : List AAr} (h : Bec G w (PgX g ⟨v', M', wb, l⟩) w2) (a b : Int) :
    Calls Try.prog 44 #[.pointer (some ⟨g, 0, none⟩), .int .i64 a, .int .i64 b] w2 (BmOk G w g wb l M' a b) := by
  obtain ⟨A, k1, k2⟩ := h.next
  obtain ⟨k3, _, k4⟩ := pgx_in k1
  refine (forget_any k3 k4 a b).mono fun e w' hp => ?_
  obtain ⟨rfl, h1, h2⟩ := hp
  exact ⟨rfl, v', k2 (pg_forget k1 h1 h2)⟩
set_option maxRecDepth 100000 in
set_option maxHeartbeats 8000000 in
theorem map_any {F : Nat → Prop} {w : World} {p : Nat} {A A' : Wd} {n a b code : Int} {x y : Bool} (h : (FlT p A).In F w) (hn : okI n) (hd : LayD A n a b (some (x, y, false)) code A') :
    Calls Try.prog 17 #[.pointer (some ⟨p, 0, none⟩), .int .i64 n, .int .i64 a, .int .i64 b, .agg #[.bool x, .bool y]] w (FlP F w p A' code) := by
  have HB0 : Below w.heap.size w (w.alloc (.cells #[.bool x, .bool y] 31)) := new_below _ _
  have HX0 : Laid (w.alloc (.cells #[.bool x, .bool y] 31)) w.heap.size 31 #[.bool x, .bool y] := Laid.new _ _ _
  obtain ⟨F0, h0, hcl⟩ := (In.below h HB0).next
  have HR : Hid (Bec F w (FlT p A) (w.alloc (.cells #[.bool x, .bool y] 31))) := In.below h HB0
  clear h
  generalize hW : w.alloc (.cells #[.bool x, .bool y] 31) = W at *
  obtain ⟨⟨m, l⟩, ⟨rfl, hok⟩, h⟩ := h0
  simp only at h hok HR hd
  have hof := ofp_any (FlX.box h) (FlX.mp h) hn
  rcases hd with ⟨h1, rfl, rfl⟩ | ⟨s, h1, hd⟩
  · rw [lk_none'.1 h1] at hof
    unfold ofR at hof
    try simp only at hof
    clear h1 hok h hcl HB0 HX0
    go_enter Try.func17, Try.ntmps17
    go_wp2_with fail
    refine hof.mono ?_
    rintro e w1 ⟨rfl, hw⟩
    obtain rfl := hw.symm
    clear hw hW
    go_wp2
    go_ret
    exact ⟨rfl, HR.out⟩
  · obtain ⟨g, hx⟩ := lk_some h1
    rw [hx] at hof
    unfold ofR at hof
    try simp only at hof
    obtain ⟨G, g1, g2⟩ := fl_open h hok hx
    obtain ⟨⟨v, M, wb, l0⟩, hf, g1⟩ := g1
    try simp only at hf g1
    obtain ⟨k1, k2, k3⟩ := pgx_in g1
    try simp only at k1 k2 k3
    obtain ⟨ao, cc, rfl⟩ := k2.form
    have c0 : W.cell? ⟨g, 0, none⟩ = some (.slice ao M.length cc) := by rw [k1.cell]; rfl
    have r0 : W.cell? ⟨w.heap.size, 0, none⟩ = some (.bool x) := by rw [HX0.cell]; rfl
    have r1 : W.cell? ⟨w.heap.size, 1, none⟩ = some (.bool y) := by rw [HX0.cell]; rfl
    have hML : M.length ≤ maxLen := by have := hf.few; simp only at this; unfold maxLen; omega
    obtain ⟨r, hr, hlay⟩ := lay_tell M ⟨a, b, x, y, false⟩
    obtain ⟨e1, e2⟩ := lay_r (a := a) (b := b) (t := some (x, y, false)) hf hr
    have hl : ∀ W', Below W.heap.size W W' → Calls Try.prog 43 #[.slice ao M.length cc, av ⟨a, b, x, y, false⟩] W' (TellW W' r) := fun W' hb => hlay W' ao cc (k2.sn.below hb) hML
    have hno : ∀ k, r = .error k → ∀ W', Below W.heap.size W W' → Calls Try.prog 43 #[.slice ao M.length cc, .agg #[.int .i64 a, .int .i64 b, .bool x, .bool y, .bool false]] W' (BcNo W k (fun w' => w'.cell? ⟨g, 0, none⟩ = some (.slice ao M.length cc) ∧ w'.cell? ⟨w.heap.size, 0, none⟩ = some (.bool x) ∧ w'.cell? ⟨w.heap.size, 1, none⟩ = some (.bool y))) := fun k hk W' hb => (hl W' hb).mono fun e w1 ht => bc_no hb (fun w' hb' => ⟨(hb'.cell k1.lt).trans c0, (hb'.cell HX0.lt).trans r0, (hb'.cell HX0.lt).trans r1⟩) (hk ▸ ht)
    have hyes : ∀ M', r = .ok M' → ∀ W', Below W.heap.size W W' → Calls Try.prog 43 #[.slice ao M.length cc, .agg #[.int .i64 a, .int .i64 b, .bool x, .bool y, .bool false]] W' (BcOk G W g wb (.slice ao M.length cc) l0 M' (fun w' => w'.cell? ⟨g, 0, none⟩ = some (.slice ao M.length cc) ∧ w'.cell? ⟨w.heap.size, 0, none⟩ = some (.bool x) ∧ w'.cell? ⟨w.heap.size, 1, none⟩ = some (.bool y))) := fun M' hk W' hb => (hl W' hb).mono fun e w1 ht => bc_ok g1 hb (fun w' hb' => ⟨(hb'.cell k1.lt).trans c0, (hb'.cell HX0.lt).trans r0, (hb'.cell HX0.lt).trans r1⟩) (hk ▸ ht)
    have key : (A' = lkP l ∧ code ≠ 0 ∧ r = .error code) ∨ (code = 0 ∧ ∃ M', r = .ok M' ∧ SpanA a b ∧ CanA (layA s.f a b (some (x, y, false))) M' ∧ M'.length ≤ 64 ∧ A' = (lkP l).set n (some ⟨layA s.f a b (some (x, y, false)), wdZ s.wd a b⟩)) := by
      rcases hd with ⟨d1, rfl, rfl⟩ | ⟨d1, M', d2, ⟨d3, rfl, rfl⟩ | ⟨d3, rfl, rfl⟩⟩
      · exact Or.inl ⟨rfl, by decide, e1 d1⟩
      · exact Or.inl ⟨rfl, by decide, by rw [e2 M' d1 d2, fitR_gt d3]⟩
      · exact Or.inr ⟨rfl, M', by rw [e2 M' d1 d2, fitR_le d3], d1, d2, d3, rfl⟩
    rcases key with ⟨rfl, hc0, hr0⟩ | ⟨rfl, M', hr0, hS, hM, h4, rfl⟩
    · have hno' := hno code hr0
      have hev := errV_ne hc0
      clear hd h1 hok h hx g1 g2 hf k1 k2 k3 hML hr hlay e1 e2 hl hno hyes hr0 HX0 hcl HB0 hc0
      go_enter Try.func17, Try.ntmps17
      go_wp2_with fail
      refine hof.mono ?_
      rintro e w1 ⟨rfl, hw⟩
      obtain rfl := hw.symm
      clear hw hW hof
      go_wp2_with fail
      go_region_held3 (fun w' => w'.cell? ⟨g, 0, none⟩ = some (.slice ao M.length cc) ∧ w'.cell? ⟨w.heap.size, 0, none⟩ = some (.bool x) ∧ w'.cell? ⟨w.heap.size, 1, none⟩ = some (.bool y)) (go_keep) (first | (go_at_call 43; refine (hno' _ ?q1).mono ?_; (case q1 => first | exact Below.refl _ _ | exact (Below.refl _ _).drew); rintro e w2 ⟨rfl, ⟨x0, x1, x2⟩, HB2⟩) | (go_at_call 38; refine (become_no _ _ _ _).mono ?_; rintro e w3 ⟨rfl, rfl⟩))
      go_wp2
      go_ret
      exact ⟨congrArg Ending.returned hev.symm, HR.out.below HB2.out⟩
    · have hyes' := hyes M' hr0
      have HE : Hid (∀ v' w', Bec G W (PgX g ⟨v', M', wb, keepW a b l0⟩) w' → Bec F w (FlT p ((lkP l).set n (some ⟨layA s.f a b (some (x, y, false)), wdZ s.wd a b⟩))) w') := fun v' w' hb =>
        hcl (g2 (layS_ok hf.ok hS hM h4) (hb.imp fun {F' w''} k => ⟨_, fits_lay hf hS hM h4, k⟩))
      clear hd h1 hok h hx g1 g2 hf k1 k2 k3 hML hr hlay e1 e2 hl hno hyes hr0 HX0 hcl HB0 HR hS hM h4
      go_enter Try.func17, Try.ntmps17
      go_wp2_with fail
      refine hof.mono ?_
      rintro e w1 ⟨rfl, hw⟩
      obtain rfl := hw.symm
      clear hw hW hof
      go_wp2_with fail
      refine wp_region_X (fun w' => w'.cell? ⟨g, 0, none⟩ = some (.slice ao M.length cc) ∧ w'.cell? ⟨w.heap.size, 0, none⟩ = some (.bool x) ∧ w'.cell? ⟨w.heap.size, 1, none⟩ = some (.bool y)) [12, 13] (by kernel_rfl) ?_
      have hHeld : W.drew.cell? ⟨g, 0, none⟩ = some (.slice ao M.length cc) ∧ W.drew.cell? ⟨w.heap.size, 0, none⟩ = some (.bool x) ∧ W.drew.cell? ⟨w.heap.size, 1, none⟩ = some (.bool y) := ⟨c0, r0, r1⟩
      refine wpAnyX_take (i := 0) (v := ?v0) rfl (by kernel_rfl) (by kernel_rfl) (by kernel_rfl) (by kernel_rfl) (by kernel_rfl) (fun _ _ _ h => h) (Or.inl ⟨by rfl, ?hy0⟩) hHeld ?rest0
      case hy0 => intro w hSw; (try dsimp only at hSw); go_simp; try with_reducible rfl
      case rest0 =>
      simp only [Act.put, List.setIfInBounds_toArray, List.set_cons_zero, List.set_cons_succ, List.getElem_toArray, List.getElem_cons_zero]
      refine wpAnyX_take (i := 1) (v := ?v1) rfl (by kernel_rfl) (by kernel_rfl) (by kernel_rfl) (by kernel_rfl) (by kernel_rfl) (fun _ _ _ h => h) (Or.inl ⟨by rfl, ?hy1⟩) hHeld ?rest1
      case hy1 => intro w hSw; (try dsimp only at hSw); go_simp; try with_reducible rfl
      case rest1 =>
      simp only [Act.put, List.setIfInBounds_toArray, List.set_cons_zero, List.set_cons_succ, List.getElem_toArray, List.getElem_cons_zero, List.getElem_cons_succ]
      refine wpAnyX_take (i := 2) (v := ?v2) rfl (by kernel_rfl) (by kernel_rfl) (by kernel_rfl) (by kernel_rfl) (by kernel_rfl) (fun _ _ _ h => h) (Or.inl ⟨by rfl, ?hy2⟩) hHeld ?rest2
      case hy2 => intro w hSw; (try dsimp only at hSw); go_simp; try with_reducible rfl
      case rest2 =>
      simp only [Act.put, List.setIfInBounds_toArray, List.set_cons_zero, List.set_cons_succ, List.getElem_toArray, List.getElem_cons_zero, List.getElem_cons_succ]
      refine wpAnyX_take (i := 3) (v := ?v3) rfl (by kernel_rfl) (by kernel_rfl) (by kernel_rfl) (by kernel_rfl) (by kernel_rfl) (fun _ _ _ h => h) (Or.inl ⟨by rfl, ?hy3⟩) hHeld ?rest3
      case hy3 => intro w hSw; (try dsimp only at hSw); go_simp; try with_reducible rfl
      case rest3 =>
      simp only [Act.put, List.setIfInBounds_toArray, List.set_cons_zero, List.set_cons_succ, List.getElem_toArray, List.getElem_cons_zero, List.getElem_cons_succ]
      refine wpAnyX_take (i := 4) (v := ?v4) rfl (by kernel_rfl) (by kernel_rfl) (by kernel_rfl) (by kernel_rfl) (by kernel_rfl) (fun _ _ _ h => h) (Or.inl ⟨by rfl, ?hy4⟩) hHeld ?rest4
      case hy4 => intro w hSw; (try dsimp only at hSw); go_simp; try with_reducible rfl
      case rest4 =>
      simp only [Act.put, List.setIfInBounds_toArray, List.set_cons_zero, List.set_cons_succ, List.getElem_toArray, List.getElem_cons_zero, List.getElem_cons_succ]
      refine wpAnyX_take (i := 5) (v := ?v5) rfl (by kernel_rfl) (by kernel_rfl) (by kernel_rfl) (by kernel_rfl) (by kernel_rfl) (fun _ _ _ h => h) (Or.inl ⟨by rfl, ?hy5⟩) hHeld ?rest5
      case hy5 => intro w hSw; (try dsimp only at hSw); go_simp; try with_reducible rfl
      case rest5 =>
      simp only [Act.put, List.setIfInBounds_toArray, List.set_cons_zero, List.set_cons_succ, List.getElem_toArray, List.getElem_cons_zero, List.getElem_cons_succ]
      refine wpAnyX_take (i := 6) (v := ?v6) rfl (by kernel_rfl) (by kernel_rfl) (by kernel_rfl) (by kernel_rfl) (by kernel_rfl) (fun _ _ _ h => h) (Or.inl ⟨by rfl, ?hy6⟩) hHeld ?rest6
      case hy6 => intro w hSw; (try dsimp only at hSw); go_simp; try with_reducible rfl
      case rest6 =>
      simp only [Act.put, List.setIfInBounds_toArray, List.set_cons_zero, List.set_cons_succ, List.getElem_toArray, List.getElem_cons_zero, List.getElem_cons_succ]
      refine wpAnyX_take (i := 7) (v := ?v7) rfl (by kernel_rfl) (by kernel_rfl) (by kernel_rfl) (by kernel_rfl) (by kernel_rfl) (fun _ _ _ h => h) (Or.inl ⟨by rfl, ?hy7⟩) hHeld ?rest7
      case hy7 => intro w hSw; (try dsimp only at hSw); go_simp; try with_reducible rfl
      case rest7 =>
      simp only [Act.put, List.setIfInBounds_toArray, List.set_cons_zero, List.set_cons_succ, List.getElem_toArray, List.getElem_cons_zero, List.getElem_cons_succ]
      refine wpAnyX_take (i := 8) (v := ?v8) rfl (by kernel_rfl) (by kernel_rfl) (by kernel_rfl) (by kernel_rfl) (by kernel_rfl) (fun _ _ _ h => h) (Or.inl ⟨by rfl, ?hy8⟩) hHeld ?rest8
      case hy8 => intro w hSw; (try dsimp only at hSw); go_simp; try with_reducible rfl
      case rest8 =>
      simp only [Act.put, List.setIfInBounds_toArray, List.set_cons_zero, List.set_cons_succ, List.getElem_toArray, List.getElem_cons_zero, List.getElem_cons_succ]
      refine wpAnyX_one (i := 9) (by kernel_rfl) rfl (fun K hK => ?_)
      go_simp
      refine (hyes' _ (Below.refl _ _).drew).mono ?_
      rintro e w2 ⟨ao2, n2, c2, rfl, HC2, HL2, HB2⟩
      refine hK.out _ _ HC2 ?_
      clear hK K hHeld
      have hHeld := HC2
      refine wpAnyX_take (i := 10) (v := ?v10) rfl (by kernel_rfl) (by kernel_rfl) (by kernel_rfl) (by kernel_rfl) (by kernel_rfl) (fun _ _ _ h => h) (Or.inl ⟨by rfl, ?hy10⟩) hHeld ?rest10
      case hy10 => intro w hSw; (try dsimp only at hSw); go_simp; try with_reducible rfl
      case rest10 =>
      simp only [Act.put, List.setIfInBounds_toArray, List.set_cons_zero, List.set_cons_succ, List.getElem_toArray, List.getElem_cons_zero, List.getElem_cons_succ]
      refine wpAnyX_take (i := 11) (v := ?v11) rfl (by kernel_rfl) (by kernel_rfl) (by kernel_rfl) (by kernel_rfl) (by kernel_rfl) (fun _ _ _ h => h) (Or.inl ⟨by rfl, ?hy11⟩) hHeld ?rest11
      case hy11 => intro w hSw; (try dsimp only at hSw); go_simp; try with_reducible rfl
      case rest11 =>
      simp only [Act.put, List.setIfInBounds_toArray, List.set_cons_zero, List.set_cons_succ, List.getElem_toArray, List.getElem_cons_zero, List.getElem_cons_succ]
      refine wpAnyX_last (i := 12) (by kernel_rfl) rfl (by kernel_rfl) (fun K hK => ?_)
      go_simp
      refine (become_ok _ _ _ _ _ _ _ HL2.out).mono ?_
      rintro e w3 ⟨rfl, rfl⟩
      refine hK.out _ _ ?_
      clear hK K
      refine wpAnyX_last (i := 13) (by kernel_rfl) rfl (by kernel_rfl) (fun K hK => ?_)
      go_simp
      refine hK.out _ _ ?_
      clear hK K hHeld HC2
      refine wpAnyX_done (by kernel_rfl) ?_ _
      go_wp2_with fail
      refine (forget_bc HB2.out a b).mono ?_
      rintro e w4 ⟨rfl, v4, HB4⟩
      go_wp2
      go_ret
      exact ⟨rfl, HE.out _ _ HB4.out⟩
end Go.Proofs.Ytoimmapdkapheaa
/- Unmap, Advise, Protect. -/
namespace Go.Proofs.Ytoimmapdkapheaa
set_option maxRecDepth 4000
open Go.RowKit

set_option maxRecDepth 100000 in
set_option maxHeartbeats 8000000 in
theorem unmap_any {F : Nat → Prop} {w : World} {p : Nat} {A A' : Wd} {n a b code : Int} (h : (FlT p A).In F w) (hn : okI n) (hd : LayD A n a b none code A') :
    Calls Try.prog 24 #[.pointer (some ⟨p, 0, none⟩), .int .i64 n, .int .i64 a, .int .i64 b] w (FlP F w p A' code) := by
  have HR : Hid (Bec F w (FlT p A) w) := Bec.refl h
  obtain ⟨⟨m, l⟩, ⟨rfl, hok⟩, h⟩ := h
  simp only at h hok HR hd
  have hof := ofp_any (FlX.box h) (FlX.mp h) hn
  rcases hd with ⟨h1, rfl, rfl⟩ | ⟨s, h1, hd⟩
  · rw [lk_none'.1 h1] at hof
    unfold ofR at hof
    try simp only at hof
    clear h1 hok h
    go_enter Try.func24, Try.ntmps24
    go_wp2_with fail
    refine hof.mono ?_
    rintro e w1 ⟨rfl, hw⟩
    obtain rfl := hw.symm
    clear hw
    go_wp2
    go_ret
    exact ⟨rfl, HR.out⟩
  · obtain ⟨g, hx⟩ := lk_some h1
    rw [hx] at hof
    unfold ofR at hof
    try simp only at hof
    obtain ⟨G, g1, g2⟩ := fl_open h hok hx
    obtain ⟨⟨v, M, wb, l0⟩, hf, g1⟩ := g1
    try simp only at hf g1
    obtain ⟨k1, k2, k3⟩ := pgx_in g1
    try simp only at k1 k2 k3
    obtain ⟨ao, cc, rfl⟩ := k2.form
    have c0 : w.cell? ⟨g, 0, none⟩ = some (.slice ao M.length cc) := by rw [k1.cell]; rfl
    have hML : M.length ≤ maxLen := by have := hf.few; simp only at this; unfold maxLen; omega
    obtain ⟨r, hr, hlay⟩ := cut_tell M a b
    obtain ⟨e1, e2⟩ := lay_r (a := a) (b := b) (t := none) hf hr
    have hl := hlay w ao cc k2.sn hML
    have hno : ∀ k, r = .error k → Calls Try.prog 48 #[.slice ao M.length cc, .int .i64 a, .int .i64 b] w (BcNo w k (fun _ => True)) := fun k hk => hl.mono fun e w1 ht => bc_no (Below.refl _ _) (fun _ _ => trivial) (hk ▸ ht)
    have hyes : ∀ M', r = .ok M' → Calls Try.prog 48 #[.slice ao M.length cc, .int .i64 a, .int .i64 b] w (BcOk G w g wb (.slice ao M.length cc) l0 M' (fun _ => True)) := fun M' hk => hl.mono fun e w1 ht => bc_ok g1 (Below.refl _ _) (fun _ _ => trivial) (hk ▸ ht)
    have key : (A' = lkP l ∧ code ≠ 0 ∧ r = .error code) ∨ (code = 0 ∧ ∃ M', r = .ok M' ∧ SpanA a b ∧ CanA (layA s.f a b none) M' ∧ M'.length ≤ 64 ∧ A' = (lkP l).set n (some ⟨layA s.f a b none, wdZ s.wd a b⟩)) := by
      rcases hd with ⟨d1, rfl, rfl⟩ | ⟨d1, M', d2, ⟨d3, rfl, rfl⟩ | ⟨d3, rfl, rfl⟩⟩
      · exact Or.inl ⟨rfl, by decide, e1 d1⟩
      · exact Or.inl ⟨rfl, by decide, by rw [e2 M' d1 d2, fitR_gt d3]⟩
      · exact Or.inr ⟨rfl, M', by rw [e2 M' d1 d2, fitR_le d3], d1, d2, d3, rfl⟩
    rcases key with ⟨rfl, hc0, hr0⟩ | ⟨rfl, M', hr0, hS, hM, h4, rfl⟩
    · have hno' := hno code hr0
      have hev := errV_ne hc0
      clear hd h1 hok h hx g1 g2 hf k1 k2 k3 hML hr hlay e1 e2 hl hno hyes hr0 hc0
      go_enter Try.func24, Try.ntmps24
      go_wp2_with fail
      refine hof.mono ?_
      rintro e w1 ⟨rfl, hw⟩
      obtain rfl := hw.symm
      clear hw hof
      go_wp2_with fail
      refine hno'.mono ?_
      rintro e w2 ⟨rfl, -, HB2⟩
      go_wp2_with fail
      refine (become_no _ _ _ _).mono ?_
      rintro e w3 ⟨rfl, hw⟩
      obtain rfl := hw.symm
      clear hw
      go_wp2
      go_ret
      exact ⟨congrArg Ending.returned hev.symm, HR.out.below HB2.out⟩
    · have hyes' := hyes M' hr0
      have HE : Hid (∀ v' w', Bec G w (PgX g ⟨v', M', wb, keepW a b l0⟩) w' → Bec F w (FlT p ((lkP l).set n (some ⟨layA s.f a b none, wdZ s.wd a b⟩))) w') := fun v' w' hb =>
        g2 (layS_ok hf.ok hS hM h4) (hb.imp fun {F' w''} k => ⟨_, fits_lay hf hS hM h4, k⟩)
      clear hd h1 hok h hx g1 g2 hf k1 k2 k3 hML hr hlay e1 e2 hl hno hyes hr0 HR hS hM h4
      go_enter Try.func24, Try.ntmps24
      go_wp2_with fail
      refine hof.mono ?_
      rintro e w1 ⟨rfl, hw⟩
      obtain rfl := hw.symm
      clear hw hof
      go_wp2_with fail
      refine hyes'.mono ?_
      rintro e w2 ⟨ao2, n2, c2, rfl, -, HL2, HB2⟩
      go_wp2_with fail
      refine (become_ok _ _ _ _ _ _ _ HL2.out).mono ?_
      rintro e w3 ⟨rfl, rfl⟩
      go_wp2_with fail
      refine (forget_bc HB2.out a b).mono ?_
      rintro e w4 ⟨rfl, v4, HB4⟩
      go_wp2
      go_ret
      exact ⟨rfl, HE.out _ _ HB4.out⟩

theorem chg_key {l : Spl} {A' : Wd} {n a b code : Int} {t : Pg → Pg} {s : Sp} {M : List AAr} {v : Value} {wb : Nat} {l0 : Wds} {r : Except Int (List AAr)} (hf : (PgL.mk v M wb l0).fits s) (hr : EachS M a b t r)
    (hd : (¬ SpanA a b ∧ code = 1 ∧ A' = lkP l) ∨ (SpanA a b ∧ (∃ p, a ≤ p ∧ p < b ∧ s.f p = none) ∧ code = 3 ∧ A' = lkP l) ∨ (SpanA a b ∧ (∀ p, a ≤ p → p < b → s.f p ≠ none) ∧ ∃ M, CanA (mapA s.f a b t) M ∧ ((64 < M.length ∧ code = 5 ∧ A' = lkP l) ∨ (M.length ≤ 64 ∧ code = 0 ∧ A' = (lkP l).set n (some ⟨mapA s.f a b t, s.wd⟩))))) :
    (A' = lkP l ∧ code ≠ 0 ∧ r = .error code) ∨ (code = 0 ∧ ∃ M', r = .ok M' ∧ CanA (mapA s.f a b t) M' ∧ M'.length ≤ 64 ∧ A' = (lkP l).set n (some ⟨mapA s.f a b t, s.wd⟩)) := by
  obtain ⟨e1, e2, e3⟩ := each_r hf hr
  rcases hd with ⟨d1, rfl, rfl⟩ | ⟨d1, d2, rfl, rfl⟩ | ⟨d1, d2, M', d3, ⟨d4, rfl, rfl⟩ | ⟨d4, rfl, rfl⟩⟩
  · exact Or.inl ⟨rfl, by decide, e1 d1⟩
  · exact Or.inl ⟨rfl, by decide, e2 d1 d2⟩
  · exact Or.inl ⟨rfl, by decide, by rw [e3 M' d1 d2 d3, fitR_gt d4]⟩
  · exact Or.inr ⟨rfl, M', by rw [e3 M' d1 d2 d3, fitR_le d4], d3, d4, rfl⟩

set_option maxRecDepth 100000 in
set_option maxHeartbeats 8000000 in
theorem fadvise_any {F : Nat → Prop} {w : World} {p : Nat} {A A' : Wd} {n a b code : Int} {z : Bool} (h : (FlT p A).In F w) (hn : okI n) (hd : ChgD A n a b (fun p => (p.1, p.2.1, z)) code A') :
    Calls Try.prog 31 #[.pointer (some ⟨p, 0, none⟩), .int .i64 n, .int .i64 a, .int .i64 b, .bool z] w (FlP F w p A' code) := by
  have HR : Hid (Bec F w (FlT p A) w) := Bec.refl h
  obtain ⟨⟨m, l⟩, ⟨rfl, hok⟩, h⟩ := h
  simp only at h hok HR hd
  have hof := ofp_any (FlX.box h) (FlX.mp h) hn
  rcases hd with ⟨h1, rfl, rfl⟩ | ⟨s, h1, hd⟩
  · rw [lk_none'.1 h1] at hof
    unfold ofR at hof
    try simp only at hof
    clear h1 hok h
    go_enter Try.func31, Try.ntmps31
    go_wp2_with fail
    refine hof.mono ?_
    rintro e w1 ⟨rfl, hw⟩
    obtain rfl := hw.symm
    clear hw
    go_wp2
    go_ret
    exact ⟨rfl, HR.out⟩
  · obtain ⟨g, hx⟩ := lk_some h1
    rw [hx] at hof
    unfold ofR at hof
    try simp only at hof
    obtain ⟨G, g1, g2⟩ := fl_open h hok hx
    obtain ⟨⟨v, M, wb, l0⟩, hf, g1⟩ := g1
    try simp only at hf g1
    obtain ⟨k1, k2, k3⟩ := pgx_in g1
    try simp only at k1 k2 k3
    obtain ⟨ao, cc, rfl⟩ := k2.form
    have c0 : w.cell? ⟨g, 0, none⟩ = some (.slice ao M.length cc) := by rw [k1.cell]; rfl
    have hML : M.length ≤ maxLen := by have := hf.few; simp only at this; unfold maxLen; omega
    obtain ⟨r, hr, hlay⟩ := advise_tell M a b z
    have hl := hlay w ao cc k2.sn hML
    have hno : ∀ k, r = .error k → Calls Try.prog 52 #[.slice ao M.length cc, .int .i64 a, .int .i64 b, .bool z] w (BcNo w k (fun _ => True)) := fun k hk => hl.mono fun e w1 ht => bc_no (Below.refl _ _) (fun _ _ => trivial) (hk ▸ ht)
    have hyes : ∀ M', r = .ok M' → Calls Try.prog 52 #[.slice ao M.length cc, .int .i64 a, .int .i64 b, .bool z] w (BcOk G w g wb (.slice ao M.length cc) l0 M' (fun _ => True)) := fun M' hk => hl.mono fun e w1 ht => bc_ok g1 (Below.refl _ _) (fun _ _ => trivial) (hk ▸ ht)
    rcases chg_key hf hr hd with ⟨rfl, hc0, hr0⟩ | ⟨rfl, M', hr0, hM, h4, rfl⟩
    · have hno' := hno code hr0
      have hev := errV_ne hc0
      clear hd h1 hok h hx g1 g2 hf k1 k2 k3 hML hr hlay hl hno hyes hr0 hc0
      go_enter Try.func31, Try.ntmps31
      go_wp2_with fail
      refine hof.mono ?_
      rintro e w1 ⟨rfl, hw⟩
      obtain rfl := hw.symm
      clear hw hof
      go_wp2_with fail
      refine hno'.mono ?_
      rintro e w2 ⟨rfl, -, HB2⟩
      go_wp2_with fail
      refine (become_no _ _ _ _).mono ?_
      rintro e w3 ⟨rfl, hw⟩
      obtain rfl := hw.symm
      clear hw
      go_wp2
      go_ret
      exact ⟨congrArg Ending.returned hev.symm, HR.out.below HB2.out⟩
    · have hyes' := hyes M' hr0
      have HE : Hid (∀ v' w', Bec G w (PgX g ⟨v', M', wb, l0⟩) w' → Bec F w (FlT p ((lkP l).set n (some ⟨mapA s.f a b (fun p => (p.1, p.2.1, z)), s.wd⟩))) w') := fun v' w' hb =>
        g2 (mapS_ok hf.ok hM h4) (hb.imp fun {F' w''} k => ⟨_, fits_map hf hM h4, k⟩)
      clear hd h1 hok h hx g1 g2 hf k1 k2 k3 hML hr hlay hl hno hyes hr0 HR hM h4
      go_enter Try.func31, Try.ntmps31
      go_wp2_with fail
      refine hof.mono ?_
      rintro e w1 ⟨rfl, hw⟩
      obtain rfl := hw.symm
      clear hw hof
      go_wp2_with fail
      refine hyes'.mono ?_
      rintro e w2 ⟨ao2, n2, c2, rfl, -, HL2, HB2⟩
      go_wp2_with fail
      refine (become_ok _ _ _ _ _ _ _ HL2.out).mono ?_
      rintro e w3 ⟨rfl, rfl⟩
      go_wp2
      go_ret
      exact ⟨rfl, HE.out _ _ HB2.out⟩

set_option maxRecDepth 100000 in
set_option maxHeartbeats 8000000 in
theorem protect_any {F : Nat → Prop} {w : World} {p : Nat} {A A' : Wd} {n a b code : Int} {x y : Bool} (h : (FlT p A).In F w) (hn : okI n) (hd : ChgD A n a b (fun p => (x, y, p.2.2)) code A') :
    Calls Try.prog 13 #[.pointer (some ⟨p, 0, none⟩), .int .i64 n, .int .i64 a, .int .i64 b, .agg #[.bool x, .bool y]] w (FlP F w p A' code) := by
  have HB0 : Below w.heap.size w (w.alloc (.cells #[.bool x, .bool y] 31)) := new_below _ _
  have HX0 : Laid (w.alloc (.cells #[.bool x, .bool y] 31)) w.heap.size 31 #[.bool x, .bool y] := Laid.new _ _ _
  obtain ⟨F0, h0, hcl⟩ := (In.below h HB0).next
  have HR : Hid (Bec F w (FlT p A) (w.alloc (.cells #[.bool x, .bool y] 31))) := In.below h HB0
  clear h
  generalize hW : w.alloc (.cells #[.bool x, .bool y] 31) = W at *
  obtain ⟨⟨m, l⟩, ⟨rfl, hok⟩, h⟩ := h0
  simp only at h hok HR hd
  have hof := ofp_any (FlX.box h) (FlX.mp h) hn
  rcases hd with ⟨h1, rfl, rfl⟩ | ⟨s, h1, hd⟩
  · rw [lk_none'.1 h1] at hof
    unfold ofR at hof
    try simp only at hof
    clear h1 hok h hcl HB0 HX0
    go_enter Try.func13, Try.ntmps13
    go_wp2_with fail
    refine hof.mono ?_
    rintro e w1 ⟨rfl, hw⟩
    obtain rfl := hw.symm
    clear hw hW
    go_wp2
    go_ret
    exact ⟨rfl, HR.out⟩
  · obtain ⟨g, hx⟩ := lk_some h1
    rw [hx] at hof
    unfold ofR at hof
    try simp only at hof
    obtain ⟨G, g1, g2⟩ := fl_open h hok hx
    obtain ⟨⟨v, M, wb, l0⟩, hf, g1⟩ := g1
    try simp only at hf g1
    obtain ⟨k1, k2, k3⟩ := pgx_in g1
    try simp only at k1 k2 k3
    obtain ⟨ao, cc, rfl⟩ := k2.form
    have c0 : W.cell? ⟨g, 0, none⟩ = some (.slice ao M.length cc) := by rw [k1.cell]; rfl
    have r0 : W.cell? ⟨w.heap.size, 0, none⟩ = some (.bool x) := by rw [HX0.cell]; rfl
    have r1 : W.cell? ⟨w.heap.size, 1, none⟩ = some (.bool y) := by rw [HX0.cell]; rfl
    have hML : M.length ≤ maxLen := by have := hf.few; simp only at this; unfold maxLen; omega
    obtain ⟨r, hr, hlay⟩ := change_tell M a b x y
    have hl : ∀ W', Below W.heap.size W W' → Calls Try.prog 39 #[.slice ao M.length cc, .int .i64 a, .int .i64 b, .agg #[.bool x, .bool y]] W' (TellW W' r) := fun W' hb => hlay W' ao cc (k2.sn.below hb) hML
    have hSS : ∀ w', Below W.heap.size W w' → w'.cell? ⟨g, 0, none⟩ = some (.slice ao M.length cc) ∧ w'.cell? ⟨w.heap.size, 0, none⟩ = some (.bool x) ∧ w'.cell? ⟨w.heap.size, 1, none⟩ = some (.bool y) := fun w' hb' => ⟨(hb'.cell k1.lt).trans c0, (hb'.cell HX0.lt).trans r0, (hb'.cell HX0.lt).trans r1⟩
    have hno : ∀ k, r = .error k → ∀ W', Below W.heap.size W W' → Calls Try.prog 39 #[.slice ao M.length cc, .int .i64 a, .int .i64 b, .agg #[.bool x, .bool y]] W' (BcNo W k (fun w' => w'.cell? ⟨g, 0, none⟩ = some (.slice ao M.length cc) ∧ w'.cell? ⟨w.heap.size, 0, none⟩ = some (.bool x) ∧ w'.cell? ⟨w.heap.size, 1, none⟩ = some (.bool y))) := fun k hk W' hb => (hl W' hb).mono fun e w1 ht => bc_no hb hSS (hk ▸ ht)
    have hyes : ∀ M', r = .ok M' → ∀ W', Below W.heap.size W W' → Calls Try.prog 39 #[.slice ao M.length cc, .int .i64 a, .int .i64 b, .agg #[.bool x, .bool y]] W' (BcOk G W g wb (.slice ao M.length cc) l0 M' (fun w' => w'.cell? ⟨g, 0, none⟩ = some (.slice ao M.length cc) ∧ w'.cell? ⟨w.heap.size, 0, none⟩ = some (.bool x) ∧ w'.cell? ⟨w.heap.size, 1, none⟩ = some (.bool y))) := fun M' hk W' hb => (hl W' hb).mono fun e w1 ht => bc_ok g1 hb hSS (hk ▸ ht)
    clear hSS
    rcases chg_key hf hr hd with ⟨rfl, hc0, hr0⟩ | ⟨rfl, M', hr0, hM, h4, rfl⟩
    · have hno' := hno code hr0
      have hev := errV_ne hc0
      clear hd h1 hok h hx g1 g2 hf k1 k2 k3 hML hr hlay hl hno hyes hr0 HX0 hcl HB0 hc0
      go_enter Try.func13, Try.ntmps13
      go_wp2_with fail
      refine hof.mono ?_
      rintro e w1 ⟨rfl, hw⟩
      obtain rfl := hw.symm
      clear hw hW hof
      go_wp2_with fail
      go_region_held3 (fun w' => w'.cell? ⟨g, 0, none⟩ = some (.slice ao M.length cc) ∧ w'.cell? ⟨w.heap.size, 0, none⟩ = some (.bool x) ∧ w'.cell? ⟨w.heap.size, 1, none⟩ = some (.bool y)) (go_keep) (first | (go_at_call 39; refine (hno' _ ?q1).mono ?_; (case q1 => first | exact Below.refl _ _ | exact (Below.refl _ _).drew); rintro e w2 ⟨rfl, ⟨x0, x1, x2⟩, HB2⟩) | (go_at_call 38; refine (become_no _ _ _ _).mono ?_; rintro e w3 ⟨rfl, rfl⟩))
      go_wp2
      go_ret
      exact ⟨congrArg Ending.returned hev.symm, HR.out.below HB2.out⟩
    · have hyes' := hyes M' hr0
      have HE : Hid (∀ v' w', Bec G W (PgX g ⟨v', M', wb, l0⟩) w' → Bec F w (FlT p ((lkP l).set n (some ⟨mapA s.f a b (fun p => (x, y, p.2.2)), s.wd⟩))) w') := fun v' w' hb =>
        hcl (g2 (mapS_ok hf.ok hM h4) (hb.imp fun {F' w''} k => ⟨_, fits_map hf hM h4, k⟩))
      clear hd h1 hok h hx g1 g2 hf k1 k2 k3 hML hr hlay hl hno hyes hr0 HX0 hcl HB0 HR hM h4
      go_enter Try.func13, Try.ntmps13
      go_wp2_with fail
      refine hof.mono ?_
      rintro e w1 ⟨rfl, hw⟩
      obtain rfl := hw.symm
      clear hw hW hof
      go_wp2_with fail
      refine wp_region_X (fun w' => w'.cell? ⟨g, 0, none⟩ = some (.slice ao M.length cc) ∧ w'.cell? ⟨w.heap.size, 0, none⟩ = some (.bool x) ∧ w'.cell? ⟨w.heap.size, 1, none⟩ = some (.bool y)) [11, 12] (by kernel_rfl) ?_
      have hHeld : W.drew.cell? ⟨g, 0, none⟩ = some (.slice ao M.length cc) ∧ W.drew.cell? ⟨w.heap.size, 0, none⟩ = some (.bool x) ∧ W.drew.cell? ⟨w.heap.size, 1, none⟩ = some (.bool y) := ⟨c0, r0, r1⟩
      refine wpAnyX_take (i := 0) (v := ?v0) rfl (by kernel_rfl) (by kernel_rfl) (by kernel_rfl) (by kernel_rfl) (by kernel_rfl) (fun _ _ _ h => h) (Or.inl ⟨by rfl, ?hy0⟩) hHeld ?rest0
      case hy0 => intro w hSw; (try dsimp only at hSw); go_simp; try with_reducible rfl
      case rest0 =>
      simp only [Act.put, List.setIfInBounds_toArray, List.set_cons_zero, List.set_cons_succ, List.getElem_toArray, List.getElem_cons_zero]
      refine wpAnyX_take (i := 1) (v := ?v1) rfl (by kernel_rfl) (by kernel_rfl) (by kernel_rfl) (by kernel_rfl) (by kernel_rfl) (fun _ _ _ h => h) (Or.inl ⟨by rfl, ?hy1⟩) hHeld ?rest1
      case hy1 => intro w hSw; (try dsimp only at hSw); go_simp; try with_reducible rfl
      case rest1 =>
      simp only [Act.put, List.setIfInBounds_toArray, List.set_cons_zero, List.set_cons_succ, List.getElem_toArray, List.getElem_cons_zero, List.getElem_cons_succ]
      refine wpAnyX_take (i := 2) (v := ?v2) rfl (by kernel_rfl) (by kernel_rfl) (by kernel_rfl) (by kernel_rfl) (by kernel_rfl) (fun _ _ _ h => h) (Or.inl ⟨by rfl, ?hy2⟩) hHeld ?rest2
      case hy2 => intro w hSw; (try dsimp only at hSw); go_simp; try with_reducible rfl
      case rest2 =>
      simp only [Act.put, List.setIfInBounds_toArray, List.set_cons_zero, List.set_cons_succ, List.getElem_toArray, List.getElem_cons_zero, List.getElem_cons_succ]
      refine wpAnyX_take (i := 3) (v := ?v3) rfl (by kernel_rfl) (by kernel_rfl) (by kernel_rfl) (by kernel_rfl) (by kernel_rfl) (fun _ _ _ h => h) (Or.inl ⟨by rfl, ?hy3⟩) hHeld ?rest3
      case hy3 => intro w hSw; (try dsimp only at hSw); go_simp; try with_reducible rfl
      case rest3 =>
      simp only [Act.put, List.setIfInBounds_toArray, List.set_cons_zero, List.set_cons_succ, List.getElem_toArray, List.getElem_cons_zero, List.getElem_cons_succ]
      refine wpAnyX_take (i := 4) (v := ?v4) rfl (by kernel_rfl) (by kernel_rfl) (by kernel_rfl) (by kernel_rfl) (by kernel_rfl) (fun _ _ _ h => h) (Or.inl ⟨by rfl, ?hy4⟩) hHeld ?rest4
      case hy4 => intro w hSw; (try dsimp only at hSw); go_simp; try with_reducible rfl
      case rest4 =>
      simp only [Act.put, List.setIfInBounds_toArray, List.set_cons_zero, List.set_cons_succ, List.getElem_toArray, List.getElem_cons_zero, List.getElem_cons_succ]
      refine wpAnyX_take (i := 5) (v := ?v5) rfl (by kernel_rfl) (by kernel_rfl) (by kernel_rfl) (by kernel_rfl) (by kernel_rfl) (fun _ _ _ h => h) (Or.inl ⟨by rfl, ?hy5⟩) hHeld ?rest5
      case hy5 => intro w hSw; (try dsimp only at hSw); go_simp; try with_reducible rfl
      case rest5 =>
      simp only [Act.put, List.setIfInBounds_toArray, List.set_cons_zero, List.set_cons_succ, List.getElem_toArray, List.getElem_cons_zero, List.getElem_cons_succ]
      refine wpAnyX_take (i := 6) (v := ?v6) rfl (by kernel_rfl) (by kernel_rfl) (by kernel_rfl) (by kernel_rfl) (by kernel_rfl) (fun _ _ _ h => h) (Or.inl ⟨by rfl, ?hy6⟩) hHeld ?rest6
      case hy6 => intro w hSw; (try dsimp only at hSw); go_simp; try with_reducible rfl
      case rest6 =>
      simp only [Act.put, List.setIfInBounds_toArray, List.set_cons_zero, List.set_cons_succ, List.getElem_toArray, List.getElem_cons_zero, List.getElem_cons_succ]
      refine wpAnyX_take (i := 7) (v := ?v7) rfl (by kernel_rfl) (by kernel_rfl) (by kernel_rfl) (by kernel_rfl) (by kernel_rfl) (fun _ _ _ h => h) (Or.inl ⟨by rfl, ?hy7⟩) hHeld ?rest7
      case hy7 => intro w hSw; (try dsimp only at hSw); go_simp; try with_reducible rfl
      case rest7 =>
      simp only [Act.put, List.setIfInBounds_toArray, List.set_cons_zero, List.set_cons_succ, List.getElem_toArray, List.getElem_cons_zero, List.getElem_cons_succ]
      refine wpAnyX_one (i := 8) (by kernel_rfl) rfl (fun K hK => ?_)
      go_simp
      refine (hyes' _ (Below.refl _ _).drew).mono ?_
      rintro e w2 ⟨ao2, n2, c2, rfl, HC2, HL2, HB2⟩
      refine hK.out _ _ HC2 ?_
      clear hK K hHeld
      have hHeld := HC2
      refine wpAnyX_take (i := 9) (v := ?v9) rfl (by kernel_rfl) (by kernel_rfl) (by kernel_rfl) (by kernel_rfl) (by kernel_rfl) (fun _ _ _ h => h) (Or.inl ⟨by rfl, ?hy9⟩) hHeld ?rest9
      case hy9 => intro w hSw; (try dsimp only at hSw); go_simp; try with_reducible rfl
      case rest9 =>
      simp only [Act.put, List.setIfInBounds_toArray, List.set_cons_zero, List.set_cons_succ, List.getElem_toArray, List.getElem_cons_zero, List.getElem_cons_succ]
      refine wpAnyX_take (i := 10) (v := ?v10) rfl (by kernel_rfl) (by kernel_rfl) (by kernel_rfl) (by kernel_rfl) (by kernel_rfl) (fun _ _ _ h => h) (Or.inl ⟨by rfl, ?hy10⟩) hHeld ?rest10
      case hy10 => intro w hSw; (try dsimp only at hSw); go_simp; try with_reducible rfl
      case rest10 =>
      simp only [Act.put, List.setIfInBounds_toArray, List.set_cons_zero, List.set_cons_succ, List.getElem_toArray, List.getElem_cons_zero, List.getElem_cons_succ]
      refine wpAnyX_last (i := 11) (by kernel_rfl) rfl (by kernel_rfl) (fun K hK => ?_)
      go_simp
      refine (become_ok _ _ _ _ _ _ _ HL2.out).mono ?_
      rintro e w3 ⟨rfl, rfl⟩
      refine hK.out _ _ ?_
      clear hK K
      refine wpAnyX_last (i := 12) (by kernel_rfl) rfl (by kernel_rfl) (fun K hK => ?_)
      go_simp
      refine hK.out _ _ ?_
      clear hK K hHeld HC2
      refine wpAnyX_done (by kernel_rfl) ?_ _
      go_wp2
      go_ret
      exact ⟨rfl, HE.out _ _ HB2.out⟩
end Go.Proofs.Ytoimmapdkapheaa
/- find, Load, Run, Areas: what is only read. -/
namespace Go.Proofs.Ytoimmapdkapheaa
set_option maxRecDepth 4000
open Go.RowKit

theorem below_set2 {B b : Nat} {a w : World} (h : Below B a w) (hb : B ≤ b) (u v : Value) : Below B a ((w.setCell ⟨b, 0, none⟩ u).setCell ⟨b, 1, none⟩ v) := (h.setCell (p := ⟨b, 0, none⟩) hb u).setCell (p := ⟨b, 1, none⟩) hb v
/-- What find tells. -/
def fdR (o : Option (Nat × Sp)) (pg i : Int) : Value := match o with
  | none => .tuple #[.pointer none, rv false false, .iface 48 (.int .i64 3)]
  | some x => if 0 ≤ i ∧ i < 8 then (match x.2.f pg with
    | none => .tuple #[.pointer none, rv false false, .iface 48 (.int .i64 3)]
    | some t => .tuple #[.pointer (some ⟨x.1, 0, none⟩), rv t.1 t.2.1, .nilIface]) else .tuple #[.pointer none, rv false false, .iface 48 (.int .i64 1)]
set_option maxRecDepth 100000 in
set_option maxHeartbeats 4000000 in
theorem ffind_any {F : Nat → Prop} {w : World} {p m : Nat} {l : Spl} {n pg i : Int} (h : (FlX p m l).In F w) (hn : okI n) :
    Calls Try.prog 36 #[.pointer (some ⟨p, 0, none⟩), .int .i64 n, .int .i64 pg, .int .i64 i] w fun e w' => e = .returned (fdR (getL l n) pg i) ∧ Hid (Below w.heap.size w w') := by
  have HB0 : Below w.heap.size w (w.alloc (.cells #[.bool false, .bool false] 31)) := new_below _ _
  have HX0 : Laid (w.alloc (.cells #[.bool false, .bool false] 31)) w.heap.size 31 #[.bool false, .bool false] := Laid.new _ _ _
  have hof := ofp_any ((FlX.box h).below HB0) ((FlX.mp h).same (HB0.block _ (FlX.mp h).lt)) hn
  have HBW : Hid (Below w.heap.size w (w.alloc (.cells #[.bool false, .bool false] 31))) := HB0
  cases hx : getL l n with
  | none =>
    rw [hx] at hof
    unfold ofR at hof
    try simp only at hof
    clear h HB0 HX0 hx
    go_enter Try.func36, Try.ntmps36
    go_wp2_with fail
    refine hof.mono ?_
    rintro e w1 ⟨rfl, hw⟩
    obtain rfl := hw.symm
    clear hw hof
    go_wp2
    refine bodyPost_ret (v := .tuple #[.pointer none, rv false false, .iface 48 (.int .i64 3)]) ?_ rfl ⟨rfl, HBW⟩
    simp [results, Try.results36, go_sem, rv]
  | some x =>
    rw [hx] at hof
    obtain ⟨g, s⟩ := x
    unfold ofR at hof
    try simp only at hof
    unfold fdR
    simp only
    by_cases hi : 0 ≤ i ∧ i < 8
    · rw [if_pos hi]
      obtain ⟨hi0, hi8⟩ := hi
      obtain ⟨G, g1⟩ := fl_see h hx
      obtain ⟨⟨v, M, wb, l0⟩, hf, g1⟩ := g1
      obtain ⟨k1, k2, k3⟩ := pgx_in g1
      try simp only at k1 k2 k3
      obtain ⟨ao, cc, rfl⟩ := k2.form
      have hML : M.length ≤ maxLen := by have := hf.few; simp only at this; unfold maxLen; omega
      obtain ⟨r, hr, hfind⟩ := find_tell M pg
      have hfd := hfind (w.alloc (.cells #[.bool false, .bool false] 31)) ao cc (k2.sn.below HB0) hML
      have c0 : (w.alloc (.cells #[.bool false, .bool false] 31)).cell? ⟨g, 0, none⟩ = some (.slice ao M.length cc) := by rw [(k1.below HB0).cell]; rfl
      have hrr : (s.f pg = none ∧ r = .error 3) ∨ ∃ d, r = .ok d ∧ s.f pg = some d.pg := by
        rcases hr with ⟨h, _⟩ | ⟨_, h, h'⟩ | ⟨_, d, _, _, _, h, h'⟩
        · exact absurd (fits_may hf) h
        · exact Or.inl ⟨(fits_own hf pg).symm.trans h, h'⟩
        · exact Or.inr ⟨d, h', (fits_own hf pg).symm.trans h⟩
      rcases hrr with ⟨e1, rfl⟩ | ⟨⟨da, db, dw, dx, dh⟩, rfl, e1⟩
      · rw [e1]
        simp only
        unfold fndR av AAr.zero at hfd
        simp only at hfd
        clear h hx g1 hf k1 k2 k3 hML hr hfind e1 HB0
        go_enter Try.func36, Try.ntmps36
        go_wp2_with fail
        refine hof.mono ?_
        rintro e w1 ⟨rfl, hw⟩
        obtain rfl := hw.symm
        clear hw hof
        go_wp2_with fail
        refine hfd.mono ?_
        rintro e w1 ⟨rfl, HB1⟩
        have HX1 := HX0.below HB1.out
        have lz := HX1.lt
        have y0 : w1.cell? ⟨w.heap.size, 0, none⟩ = some (.bool false) := by rw [HX1.cell]; rfl
        have y1 : w1.cell? ⟨w.heap.size, 1, none⟩ = some (.bool false) := by rw [HX1.cell]; rfl
        have yf : ∀ o, w1.frozen? ⟨w.heap.size, o, none⟩ = false := fun o => frozen_of_row w1 _ o _ _ HX1
        have HBE : Hid (Below w.heap.size w w1) := below_call' HBW.out HB1.out
        clear hfd HX0 HX1 HB1
        go_wp2
        refine bodyPost_ret (v := .tuple #[.pointer none, rv false false, .iface 48 (.int .i64 3)]) ?_ rfl ⟨rfl, ?_⟩
        · have hca := cell_alloc_old (w := (w1.setCell ⟨w.heap.size, 0, none⟩ (.bool false)).setCell ⟨w.heap.size, 1, none⟩ (.bool false)) (b := w.heap.size) (by simp; exact lz)
          simp [results, Try.results36, go_sem, rv, hca, y0, y1]
        · have hb := below_set2 HBE.out (Nat.le_refl _) (.bool false) (.bool false)
          exact hb.alloc hb.size _
      · rw [e1]
        simp only [AAr.pg]
        unfold fndR av at hfd
        simp only at hfd
        clear h hx g1 hf k1 k2 k3 hML hr hfind e1 HB0
        go_enter Try.func36, Try.ntmps36
        go_wp2_with fail
        refine hof.mono ?_
        rintro e w1 ⟨rfl, hw⟩
        obtain rfl := hw.symm
        clear hw hof
        go_wp2_with fail
        refine hfd.mono ?_
        rintro e w1 ⟨rfl, HB1⟩
        have HX1 := HX0.below HB1.out
        have lz := HX1.lt
        have y0 : w1.cell? ⟨w.heap.size, 0, none⟩ = some (.bool false) := by rw [HX1.cell]; rfl
        have y1 : w1.cell? ⟨w.heap.size, 1, none⟩ = some (.bool false) := by rw [HX1.cell]; rfl
        have yf : ∀ o, w1.frozen? ⟨w.heap.size, o, none⟩ = false := fun o => frozen_of_row w1 _ o _ _ HX1
        have HBE : Hid (Below w.heap.size w w1) := below_call' HBW.out HB1.out
        clear hfd HX0 HX1 HB1
        go_wp2
        go_region
        go_wp2
        refine bodyPost_ret (v := .tuple #[.pointer (some ⟨g, 0, none⟩), rv dw dx, .nilIface]) ?_ rfl ⟨rfl, ?_⟩
        · have hca := cell_alloc_old (w := (w1.setCell ⟨w.heap.size, 0, none⟩ (.bool dw)).setCell ⟨w.heap.size, 1, none⟩ (.bool dx)) (b := w.heap.size) (by simp; exact lz)
          simp [results, Try.results36, go_sem, rv, hca, y0, y1]
        · have hb := below_set2 HBE.out (Nat.le_refl _) (.bool dw) (.bool dx)
          exact (hb.alloc hb.size _).drew
    · rw [if_neg hi]
      clear h HB0 HX0 hx
      by_cases h0 : i < 0
      · clear hi
        go_enter Try.func36, Try.ntmps36
        go_wp2_with fail
        refine hof.mono ?_
        rintro e w1 ⟨rfl, hw⟩
        obtain rfl := hw.symm
        clear hw hof
        go_wp2
        refine bodyPost_ret (v := .tuple #[.pointer none, rv false false, .iface 48 (.int .i64 1)]) ?_ rfl ⟨rfl, HBW⟩
        simp [results, Try.results36, go_sem, rv]
      · have h8 : ¬ i < 8 := fun h => hi ⟨by omega, h⟩
        clear hi
        go_enter Try.func36, Try.ntmps36
        go_wp2_with fail
        refine hof.mono ?_
        rintro e w1 ⟨rfl, hw⟩
        obtain rfl := hw.symm
        clear hw hof
        go_wp2
        refine bodyPost_ret (v := .tuple #[.pointer none, rv false false, .iface 48 (.int .i64 1)]) ?_ rfl ⟨rfl, HBW⟩
        simp [results, Try.results36, go_sem, rv]

theorem idx_w8 (x : Nat → Nat) {j : Nat} (hj : j < 8) (w : World) : (Instr.index 77 (wv x) (.int .i64 j)).run Try.prog w = .ok (.int .u64 (x j)) w := by
  obtain ⟨i0, hi, hz0, hz1, hz2⟩ := info_parts (P := Try.prog) (e := 32) (z := .int .u64 0) (size := 1) (bytes := 8) (by kernel_rfl)
  unfold wv
  match j, hj with
  | 0, _ => simp [Instr.index, run_underlying Try.underlying77, w8arr, part, sizeOf, typeInfo, hi, hz1, go_sem]
  | 1, _ => simp [Instr.index, run_underlying Try.underlying77, w8arr, part, sizeOf, typeInfo, hi, hz1, go_sem]
  | 2, _ => simp [Instr.index, run_underlying Try.underlying77, w8arr, part, sizeOf, typeInfo, hi, hz1, go_sem]
  | 3, _ => simp [Instr.index, run_underlying Try.underlying77, w8arr, part, sizeOf, typeInfo, hi, hz1, go_sem]
  | 4, _ => simp [Instr.index, run_underlying Try.underlying77, w8arr, part, sizeOf, typeInfo, hi, hz1, go_sem]
  | 5, _ => simp [Instr.index, run_underlying Try.underlying77, w8arr, part, sizeOf, typeInfo, hi, hz1, go_sem]
  | 6, _ => simp [Instr.index, run_underlying Try.underlying77, w8arr, part, sizeOf, typeInfo, hi, hz1, go_sem]
  | 7, _ => simp [Instr.index, run_underlying Try.underlying77, w8arr, part, sizeOf, typeInfo, hi, hz1, go_sem]
/-- The value of a word. -/
def wdA (A : Wd) (n pg i : Int) : Int := match A n with
  | none => 0
  | some s => s.wd pg.toNat i.toNat
def ldV (A : Wd) (n pg i code : Int) : Int := if code = 0 then wdA A n pg i else 0
/-- What find tells, by the code. -/
theorem at_fd {l : Spl} {n pg i code : Int} (hd : AtD (lkP l) n pg i code) :
    (code ≠ 0 ∧ fdR (getL l n) pg i = .tuple #[.pointer none, rv false false, .iface 48 (.int .i64 code)]) ∨
    (code = 0 ∧ ∃ g s t, getL l n = some (g, s) ∧ lkP l n = some s ∧ s.f pg = some t ∧ 0 ≤ i ∧ i < 8 ∧ fdR (getL l n) pg i = .tuple #[.pointer (some ⟨g, 0, none⟩), rv t.1 t.2.1, .nilIface]) := by
  rcases hd with ⟨h1, rfl⟩ | ⟨s, h1, ⟨h2, rfl⟩ | ⟨h2, h3, h4, rfl⟩ | ⟨h2, h3, h4, rfl⟩⟩
  · exact Or.inl ⟨by decide, by rw [lk_none'.1 h1]; rfl⟩
  · obtain ⟨g, hx⟩ := lk_some h1
    exact Or.inl ⟨by decide, by rw [hx]; unfold fdR; simp only; rw [if_neg h2]⟩
  · obtain ⟨g, hx⟩ := lk_some h1
    exact Or.inl ⟨by decide, by rw [hx]; unfold fdR; simp only; rw [if_pos ⟨h2, h3⟩, h4]⟩
  · obtain ⟨g, hx⟩ := lk_some h1
    obtain ⟨t, ht⟩ := Option.ne_none_iff_exists'.1 h4
    exact Or.inr ⟨rfl, g, s, t, hx, h1, ht, h2, h3, by rw [hx]; unfold fdR; simp only; rw [if_pos ⟨h2, h3⟩, ht]⟩
set_option maxRecDepth 100000 in
set_option maxHeartbeats 4000000 in
theorem load_any {F : Nat → Prop} {w : World} {p : Nat} {A : Wd} {n pg i code : Int} (h : (FlT p A).In F w) (hn : okI n) (hd : AtD A n pg i code) :
    Calls Try.prog 16 #[.pointer (some ⟨p, 0, none⟩), .int .i64 n, .int .i64 pg, .int .i64 i] w fun e w' => e = .returned (.tuple #[.int .u64 (ldV A n pg i code), errV code]) ∧ Hid (Below w.heap.size w w') := by
  obtain ⟨⟨m, l⟩, ⟨rfl, hok⟩, h⟩ := h
  simp only at h hok hd ⊢
  have hfd := ffind_any (pg := pg) (i := i) h hn
  rcases at_fd hd with ⟨hc, e⟩ | ⟨rfl, g, s, t, hx, hs, ht, hi0, hi8, e⟩
  · rw [e] at hfd
    unfold ldV
    rw [if_neg hc, errV_ne hc]
    unfold rv at hfd
    clear h hok hd e hc
    go_enter Try.func16, Try.ntmps16
    go_wp2_with fail
    refine hfd.mono ?_
    rintro e w1 ⟨rfl, HB1⟩
    have HBE : Hid (Below w.heap.size w (w1.alloc (.cells #[.bool false, .bool false] 31))) := HB1.out.alloc HB1.out.size _
    clear hfd HB1
    go_wp2
    go_ret2
    exact ⟨rfl, HBE⟩
  · rw [e] at hfd
    have hv : ldV (lkP l) n pg i 0 = (s.wd pg.toNat i.toNat : Int) := by
      unfold ldV wdA
      rw [if_pos rfl, hs]
    rw [hv, errV0]
    obtain ⟨G, g1⟩ := fl_see h hx
    obtain ⟨⟨v, M, wb, l0⟩, hf, g1⟩ := g1
    obtain ⟨k1, k2, k3⟩ := pgx_in g1
    try simp only at k1 k2 k3
    have hpg : 0 ≤ pg ∧ pg < 4096 := by
      by_cases c : 0 ≤ pg ∧ pg < 4096
      · exact c
      · have := hf.ok.out pg (by omega)
        rw [ht] at this
        cases this
    obtain ⟨k, rfl⟩ : ∃ k : Nat, pg = k := ⟨pg.toNat, by omega⟩
    obtain ⟨j, rfl⟩ : ∃ j : Nat, i = j := ⟨i.toNat, by omega⟩
    simp only [Int.toNat_natCast]
    have hw := hf.wds k (by omega) (by rw [ht]; simp) j (by omega)
    simp only at hw
    obtain ⟨wv1, hwv⟩ : ∃ x, x = wdOf l0 k := ⟨_, rfl⟩
    have hget : ∀ W, Below w.heap.size w W → (Instr.lookup 83 (.map (some wb)) (.int .i64 k) false).run Try.prog W = .ok (wv wv1) W := fun W hb => by
      rw [hwv]
      exact get_wd (k3.same (hb.block _ k3.lt)) ⟨by omega, by omega⟩
    rw [← hw, ← hwv]
    have hc1 : ∀ W, Below w.heap.size w W → W.cell? ⟨g, 1, none⟩ = some (.map (some wb)) := fun W hb => (hb.cell k1.lt).trans (by rw [k1.cell]; rfl)
    have hjlt : j < 8 := by omega
    have HG : Hid (∀ W, Below w.heap.size w W → (Instr.lookup 83 (.map (some wb)) (.int .i64 k) false).run Try.prog W = .ok (wv wv1) W ∧ W.cell? ⟨g, 1, none⟩ = some (.map (some wb))) := fun W hb => ⟨hget W hb, hc1 W hb⟩
    unfold rv at hfd
    clear h hok hd e hv g1 hf k1 k2 k3 hw hwv hget hc1 hx hs ht
    obtain ⟨tw, tx, th⟩ := t
    simp only at hfd
    go_enter Try.func16, Try.ntmps16
    go_wp2_with fail
    refine hfd.mono ?_
    rintro e w1 ⟨rfl, HB1⟩
    have HBE : Hid (Below w.heap.size w (w1.alloc (.cells #[.bool tw, .bool tx] 31))) := HB1.out.alloc HB1.out.size _
    obtain ⟨q1, q2⟩ := HG.out _ HBE.out
    have q3 := fun w => idx_w8 wv1 hjlt w
    clear hfd HB1 HG
    generalize wv wv1 = arr at *
    go_wp2
    go_ret2
    exact ⟨rfl, HBE⟩
end Go.Proofs.Ytoimmapdkapheaa
/- Store, Run, Areas. -/
namespace Go.Proofs.Ytoimmapdkapheaa
set_option maxRecDepth 4000
open Go.RowKit

def StoreD (A : Wd) (n pg i : Int) (v : Nat) (code : Int) (A' : Wd) : Prop :=
  (AtD A n pg i code ∧ code ≠ 0 ∧ A' = A) ∨ (∃ s t, A n = some s ∧ AtD A n pg i 0 ∧ s.f pg = some t ∧ ((t.1 = false ∧ code = 6 ∧ A' = A) ∨ (t.1 = true ∧ code = 0 ∧ A' = A.set n (some ⟨s.f, wdS s.wd pg.toNat i.toNat v⟩))))
def RunD (A : Wd) (n pg : Int) (code : Int) : Prop :=
  (AtD A n pg 0 code ∧ code ≠ 0) ∨ (∃ s t, A n = some s ∧ AtD A n pg 0 0 ∧ s.f pg = some t ∧ ((t.2.1 = false ∧ code = 6) ∨ (t.2.1 = true ∧ code = 0)))
theorem AtD.some {A : Wd} {n pg i : Int} (h : AtD A n pg i 0) : ∃ s t, A n = some s ∧ 0 ≤ i ∧ i < 8 ∧ s.f pg = some t := by
  rcases h with ⟨_, h⟩ | ⟨s, h1, ⟨_, h⟩ | ⟨_, _, _, h⟩ | ⟨h2, h3, h4, _⟩⟩
  · cases h
  · cases h
  · cases h
  · obtain ⟨t, ht⟩ := Option.ne_none_iff_exists'.1 h4
    exact ⟨s, t, h1, h2, h3, ht⟩
theorem store_ex (A : Wd) (n pg i : Int) (v : Nat) : ∃ code A', StoreD A n pg i v code A' := by
  obtain ⟨c, hc⟩ := at_ex A n pg i
  by_cases h : c = 0
  · subst h
    obtain ⟨s, t, h1, _, _, h4⟩ := hc.some
    cases e : t.1 with
    | false => exact ⟨6, A, Or.inr ⟨s, t, h1, hc, h4, Or.inl ⟨e, rfl, rfl⟩⟩⟩
    | true => exact ⟨0, _, Or.inr ⟨s, t, h1, hc, h4, Or.inr ⟨e, rfl, rfl⟩⟩⟩
  · exact ⟨c, A, Or.inl ⟨hc, h, rfl⟩⟩
theorem run_ex' (A : Wd) (n pg : Int) : ∃ code, RunD A n pg code := by
  obtain ⟨c, hc⟩ := at_ex A n pg 0
  by_cases h : c = 0
  · subst h
    obtain ⟨s, t, h1, _, _, h4⟩ := hc.some
    cases e : t.2.1 with
    | false => exact ⟨6, Or.inr ⟨s, t, h1, hc, h4, Or.inl ⟨e, rfl⟩⟩⟩
    | true => exact ⟨0, Or.inr ⟨s, t, h1, hc, h4, Or.inr ⟨e, rfl⟩⟩⟩
  · exact ⟨c, Or.inl ⟨hc, h⟩⟩
theorem StoreD.ok {A A' : Wd} {n pg i : Int} {v : Nat} {code : Int} (h : StoreD A n pg i v code A') (hA : A.ok) (hv : v < 18446744073709551616) : A'.ok := by
  rcases h with ⟨_, _, rfl⟩ | ⟨s, t, h1, _, _, ⟨_, _, rfl⟩ | ⟨_, _, rfl⟩⟩
  · exact hA
  · exact hA
  · exact hA.set (hA n s h1).1 (store_ok (hA n s h1).2 _ _ hv)
/-- A word of a page turned. -/
def setW (x : Nat → Nat) (j v : Nat) (q : Nat) : Nat := if q = j then v else x q
theorem fits_store {v : Value} {M : List AAr} {wb : Nat} {l : Wds} {s : Sp} (hf : (PgL.mk v M wb l).fits s) (k j u : Nat) (hu : u < 18446744073709551616) : (PgL.mk v M wb (putL l (k : Int) (setW (wdOf l k) j u))).fits ⟨s.f, wdS s.wd k j u⟩ := by
  refine ⟨store_ok hf.ok k j hu, hf.can, hf.few, fun q hq hn r hr => ?_⟩
  show wdOf (putL l (k : Int) (setW (wdOf l k) j u)) q r = wdS s.wd k j u q r
  have h0 := hf.wds q hq hn r hr
  simp only at h0
  unfold wdS
  by_cases e : q = k
  · subst e
    have e1 : wdOf (putL l (q : Int) (setW (wdOf l q) j u)) q = setW (wdOf l q) j u := by
      rw [show wdOf (putL l (q : Int) (setW (wdOf l q) j u)) q = (match getL (putL l (q : Int) (setW (wdOf l q) j u)) q with | some x => x | none => zw) from rfl, getL_put, if_pos rfl]
    rw [e1]
    unfold setW
    by_cases e2 : r = j
    · rw [if_pos e2, if_pos ⟨rfl, e2⟩]
    · rw [if_neg e2, if_neg (fun h => e2 h.2)]
      exact h0
  · have e1 : wdOf (putL l (k : Int) (setW (wdOf l k) j u)) q = wdOf l q := by
      unfold wdOf
      rw [getL_put, if_neg (by omega)]
    rw [e1, if_neg (fun h => e h.1)]
    exact h0
set_option maxRecDepth 100000 in
set_option maxHeartbeats 8000000 in
theorem stored_any {F : Nat → Prop} {w : World} {p : Nat} {A A' : Wd} {n pg i code : Int} {v : Nat} (h : (FlT p A).In F w) (hn : okI n) (hv : v < 18446744073709551616) (hd : StoreD A n pg i v code A') :
    Calls Try.prog 12 #[.pointer (some ⟨p, 0, none⟩), .int .i64 n, .int .i64 pg, .int .i64 i, .int .u64 v] w (FlP F w p A' code) := by
  have HR : Hid (Bec F w (FlT p A) w) := Bec.refl h
  obtain ⟨⟨m, l⟩, ⟨rfl, hok⟩, h⟩ := h
  simp only at h hok hd HR
  have hfd := ffind_any (pg := pg) (i := i) h hn
  rcases hd with ⟨hd, hc, rfl⟩ | ⟨s', t', hs', hd, ht', hd2⟩
  · rcases at_fd hd with ⟨-, e⟩ | ⟨e, -⟩
    · rw [e] at hfd
      have hev := errV_ne hc
      unfold rv at hfd
      clear h hok hd e hc
      go_enter Try.func12, Try.ntmps12
      go_wp2_with fail
      refine hfd.mono ?_
      rintro e w1 ⟨rfl, HB1⟩
      have HBE : Hid (Below w.heap.size w (w1.alloc (.cells #[.bool false, .bool false] 31))) := HB1.out.alloc HB1.out.size _
      clear hfd HB1
      go_wp2
      go_ret
      exact ⟨congrArg Ending.returned hev.symm, HR.out.below HBE.out⟩
    · exact absurd e hc
  · rcases at_fd hd with ⟨e, -⟩ | ⟨-, g, s, t, hx, hs, ht, hi0, hi8, e⟩
    · exact absurd rfl e
    · obtain rfl : s' = s := by rw [hs'] at hs; exact Option.some.inj hs
      obtain rfl : t' = t := by rw [ht'] at ht; exact Option.some.inj ht
      rw [e] at hfd
      unfold rv at hfd
      obtain ⟨tw, tx, th⟩ := t'
      simp only at hfd hd2
      rcases hd2 with ⟨rfl, rfl, rfl⟩ | ⟨rfl, rfl, rfl⟩
      · clear h hok hd e hx hs ht hs' ht'
        go_enter Try.func12, Try.ntmps12
        go_wp2_with fail
        refine hfd.mono ?_
        rintro e w1 ⟨rfl, HB1⟩
        have HBE : Hid (Below w.heap.size w (w1.alloc (.cells #[.bool false, .bool tx] 31))) := HB1.out.alloc HB1.out.size _
        clear hfd HB1
        go_wp2
        go_ret
        exact ⟨rfl, HR.out.below HBE.out⟩
      · obtain ⟨G, g1, g2⟩ := fl_open h hok hx
        obtain ⟨⟨va, M, wb, l0⟩, hf, g1⟩ := g1
        obtain ⟨k1, k2, k3⟩ := pgx_in g1
        try simp only at k1 k2 k3
        have hpg : 0 ≤ pg ∧ pg < 4096 := by
          by_cases c : 0 ≤ pg ∧ pg < 4096
          · exact c
          · have := hf.ok.out pg (by omega)
            rw [ht] at this
            cases this
        obtain ⟨k, rfl⟩ : ∃ k : Nat, pg = k := ⟨pg.toNat, by omega⟩
        obtain ⟨j, rfl⟩ : ∃ j : Nat, i = j := ⟨i.toNat, by omega⟩
        have hjlt : j < 8 := by omega
        have HG : Hid (∀ W, Below w.heap.size w W → (Instr.lookup 83 (.map (some wb)) (.int .i64 k) false).run Try.prog W = .ok (wv (wdOf l0 k)) W ∧ W.cell? ⟨g, 1, none⟩ = some (.map (some wb)) ∧ g < W.heap.size ∧
            ∃ W', (Instr.mapUpdate 83 (.map (some wb)) (.int .i64 k) (wv (setW (wdOf l0 k) j v))).run Try.prog W = .ok () W' ∧ Bec F w (FlT p ((lkP l).set n (some ⟨s'.f, wdS s'.wd k j v⟩))) W') := fun W hb => by
          have hm := k3.same (hb.block _ k3.lt)
          obtain ⟨W', r1, r2, r3⟩ := hm.store (M := wordM) (a := (k : Int)) ⟨by omega, by omega⟩ (setW (wdOf l0 k) j v)
          refine ⟨get_wd hm ⟨by omega, by omega⟩, (hb.cell k1.lt).trans (by rw [k1.cell]; rfl), Nat.lt_of_lt_of_le k1.lt hb.size, W', r1, ?_⟩
          obtain ⟨B, b1, b2⟩ := (In.below g1 hb).next
          exact g2 (store_ok hf.ok k j hv) ((b2 (pg_forget b1 r2 ((Keeps.of_grown r3.grown).mono fun c _ e => by simpa using e.symm))).imp fun {F' w''} q => ⟨_, fits_store hf k j v hv, q⟩)
        simp only [Int.toNat_natCast]
        clear h hok hd e hx hs ht hs' ht' g1 g2 hf k1 k2 k3 HR
        generalize wdOf l0 k = xw at *
        go_enter Try.func12, Try.ntmps12
        go_wp2_with fail
        refine hfd.mono ?_
        rintro e w1 ⟨rfl, HB1⟩
        have HBE : Below w.heap.size w (w1.alloc (.cells #[.bool true, .bool tx] 31)) := HB1.out.alloc HB1.out.size _
        obtain ⟨q1, q2, q2', -⟩ := HG.out _ HBE
        have q5 := fun o v => cell_alloc_old q2' o v
        obtain ⟨-, -, -, W', hrun, HF⟩ := HG.out (((w1.alloc (.cells #[.bool true, .bool tx] 31)).alloc (.cells (w8arr (setW xw j v)) 77)).drew) ((HBE.alloc HBE.size _).drew)
        have HF' : Hid _ := HF
        unfold wv w8arr at q1 hrun
        unfold setW at hrun
        clear hfd HB1 HG HBE HF q2'
        have hj : j = 0 ∨ j = 1 ∨ j = 2 ∨ j = 3 ∨ j = 4 ∨ j = 5 ∨ j = 6 ∨ j = 7 := by omega
        rcases hj with rfl | rfl | rfl | rfl | rfl | rfl | rfl | rfl
        all_goals
          simp only [Nat.reduceEqDiff, reduceIte] at hrun
          go_wp2_with fail
          go_region
          go_wp2
          go_ret
          exact ⟨rfl, HF'.out⟩
end Go.Proofs.Ytoimmapdkapheaa
/- Run, Areas. -/
namespace Go.Proofs.Ytoimmapdkapheaa
set_option maxRecDepth 4000
open Go.RowKit

set_option maxRecDepth 100000 in
set_option maxHeartbeats 4000000 in
theorem runp_any {F : Nat → Prop} {w : World} {p : Nat} {A : Wd} {n pg code : Int} (h : (FlT p A).In F w) (hn : okI n) (hd : RunD A n pg code) :
    Calls Try.prog 32 #[.pointer (some ⟨p, 0, none⟩), .int .i64 n, .int .i64 pg] w fun e w' => e = .returned (errV code) ∧ Hid (Below w.heap.size w w') := by
  obtain ⟨⟨m, l⟩, ⟨rfl, hok⟩, h⟩ := h
  simp only at h hok hd
  have hfd := ffind_any (pg := pg) (i := 0) h hn
  rcases hd with ⟨hd, hc⟩ | ⟨s', t', hs', hd, ht', hd2⟩
  · rcases at_fd hd with ⟨-, e⟩ | ⟨e, -⟩
    · rw [e] at hfd
      have hev := errV_ne hc
      unfold rv at hfd
      clear h hok hd e hc
      go_enter Try.func32, Try.ntmps32
      go_wp2_with fail
      refine hfd.mono ?_
      rintro e w1 ⟨rfl, HB1⟩
      have HBE : Hid (Below w.heap.size w (w1.alloc (.cells #[.bool false, .bool false] 31))) := HB1.out.alloc HB1.out.size _
      clear hfd HB1
      go_wp2
      go_ret
      exact ⟨congrArg Ending.returned hev.symm, HBE⟩
    · exact absurd e hc
  · rcases at_fd hd with ⟨e, -⟩ | ⟨-, g, s, t, hx, hs, ht, hi0, hi8, e⟩
    · exact absurd rfl e
    · obtain rfl : s' = s := by rw [hs'] at hs; exact Option.some.inj hs
      obtain rfl : t' = t := by rw [ht'] at ht; exact Option.some.inj ht
      rw [e] at hfd
      unfold rv at hfd
      obtain ⟨tw, tx, th⟩ := t'
      simp only at hfd hd2
      clear h hok hd e hx hs ht hs' ht'
      rcases hd2 with ⟨rfl, rfl⟩ | ⟨rfl, rfl⟩
      all_goals
        go_enter Try.func32, Try.ntmps32
        go_wp2_with fail
        refine hfd.mono ?_
        rintro e w1 ⟨rfl, HB1⟩
        have HBE := HB1.out.alloc (a := w) HB1.out.size
        have HBH : Hid _ := HBE
        clear hfd HB1 HBE
        go_wp2
        go_ret
        exact ⟨rfl, HBH.out _⟩
/-- What Areas tells. -/
def ArP (w : World) (o : Option Sp) (e : Ending) (w' : World) : Prop := match o with
  | none => e = .returned (.tuple #[.slice none 0 0, .iface 48 (.int .i64 3)]) ∧ Hid (Below w.heap.size w w')
  | some s => ∃ ao c M, CanA s.f M ∧ M.length ≤ 64 ∧ e = .returned (.tuple #[.slice ao M.length c, .nilIface]) ∧ Hid (Row rAAr w.heap.size w' (.slice ao M.length c) M) ∧ Hid (Below w.heap.size w w')
set_option maxRecDepth 100000 in
set_option maxHeartbeats 4000000 in
theorem areas_any {F : Nat → Prop} {w : World} {p : Nat} {A : Wd} {n : Int} (h : (FlT p A).In F w) (hn : okI n) : Calls Try.prog 20 #[.pointer (some ⟨p, 0, none⟩), .int .i64 n] w (ArP w (A n)) := by
  obtain ⟨⟨m, l⟩, ⟨rfl, hok⟩, h⟩ := h
  simp only at h hok ⊢
  have hof := ofp_any (FlX.box h) (FlX.mp h) hn
  unfold lkP
  cases hx : getL l n with
  | none =>
    rw [hx] at hof
    unfold ofR at hof
    try simp only at hof
    simp only [Option.map_none]
    unfold ArP
    clear h hok hx
    go_enter Try.func20, Try.ntmps20
    go_wp2_with fail
    refine hof.mono ?_
    rintro e w1 ⟨rfl, hw⟩
    obtain rfl := hw.symm
    clear hw hof
    go_wp2
    go_ret2
    exact ⟨rfl, Below.refl _ _⟩
  | some x =>
    obtain ⟨g, s⟩ := x
    rw [hx] at hof
    unfold ofR at hof
    try simp only at hof
    simp only [Option.map_some]
    obtain ⟨G, g1⟩ := fl_see h hx
    obtain ⟨⟨v, M, wb, l0⟩, hf, g1⟩ := g1
    obtain ⟨k1, k2, k3⟩ := pgx_in g1
    try simp only at k1 k2 k3
    have c0 : w.cell? ⟨g, 0, none⟩ = some v := by rw [k1.cell]; rfl
    have hcl := clone_rAAr k2 (by have := hf.few; simp only at this; omega)
    obtain ⟨ao, cc, rfl⟩ := k2.form
    have HF : Hid _ := hf
    clear h hok hx g1 k1 k2 k3 hf
    go_enter Try.func20, Try.ntmps20
    go_wp2_with fail
    refine hof.mono ?_
    rintro e w1 ⟨rfl, hw⟩
    obtain rfl := hw.symm
    clear hw hof
    go_wp2_with fail
    refine hcl.mono ?_
    rintro e w2 ⟨v', rfl, hrow, hb⟩
    obtain ⟨ao', c', rfl⟩ := hrow.form
    have HRW : Hid _ := hrow
    have HBW : Hid _ := hb
    clear hrow hb hcl
    go_wp2
    go_ret2
    exact ⟨_, _, _, HF.out.can, HF.out.few, rfl, HRW, HBW⟩
end Go.Proofs.Ytoimmapdkapheaa
