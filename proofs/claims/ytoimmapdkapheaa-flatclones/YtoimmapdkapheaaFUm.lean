/- Unmap, Advise, Protect. -/
import Derived.Test.YtoimmapdkapheaaFMap
namespace Go.Proofs.Ytoimmapdkapheaa
set_option maxRecDepth 4000
open Go.RowKit

set_option maxRecDepth 100000 in
set_option maxHeartbeats 8000000 in
theorem unmap_any {F : Nat → Prop} {w : World} {p : Nat} {A A' : Wd} {n a b code : Int} (h : (FlT p A).In F w) (hn : okI n) (hd : LayD A n a b none code A') :
    Calls Try.prog 24 #[.pointer (some ⟨p, 0, none⟩), .int .i64 n, .int .i64 a, .int .i64 b] w (FlP F w p A' code) := by
  have HR : Hid (Bec F w (FlT p A) w) := Bec.refl h
  obtain ⟨⟨m, l⟩, ⟨rfl, hok⟩, h⟩ := h
  simp only at h hok HR hd
  have hof := ofp_any (FlX.box h) (FlX.mp h) hn
  rcases hd with ⟨h1, rfl, rfl⟩ | ⟨s, h1, hd⟩
  · rw [lk_none'.1 h1] at hof
    unfold ofR at hof
    try simp only at hof
    clear h1 hok h
    go_enter Try.func24, Try.ntmps24
    go_wp2_with fail
    refine hof.mono ?_
    rintro e w1 ⟨rfl, hw⟩
    obtain rfl := hw.symm
    clear hw
    go_wp2
    go_ret
    exact ⟨rfl, HR.out⟩
  · obtain ⟨g, hx⟩ := lk_some h1
    rw [hx] at hof
    unfold ofR at hof
    try simp only at hof
    obtain ⟨G, g1, g2⟩ := fl_open h hok hx
    obtain ⟨⟨v, M, wb, l0⟩, hf, g1⟩ := g1
    try simp only at hf g1
    obtain ⟨k1, k2, k3⟩ := pgx_in g1
    try simp only at k1 k2 k3
    obtain ⟨ao, cc, rfl⟩ := k2.form
    have c0 : w.cell? ⟨g, 0, none⟩ = some (.slice ao M.length cc) := by rw [k1.cell]; rfl
    have hML : M.length ≤ maxLen := by have := hf.few; simp only at this; unfold maxLen; omega
    obtain ⟨r, hr, hlay⟩ := cut_tell M a b
    obtain ⟨e1, e2⟩ := lay_r (a := a) (b := b) (t := none) hf hr
    have hl := hlay w ao cc k2.sn hML
    have hno : ∀ k, r = .error k → Calls Try.prog 48 #[.slice ao M.length cc, .int .i64 a, .int .i64 b] w (BcNo w k (fun _ => True)) := fun k hk => hl.mono fun e w1 ht => bc_no (Below.refl _ _) (fun _ _ => trivial) (hk ▸ ht)
    have hyes : ∀ M', r = .ok M' → Calls Try.prog 48 #[.slice ao M.length cc, .int .i64 a, .int .i64 b] w (BcOk G w g wb (.slice ao M.length cc) l0 M' (fun _ => True)) := fun M' hk => hl.mono fun e w1 ht => bc_ok g1 (Below.refl _ _) (fun _ _ => trivial) (hk ▸ ht)
    have key : (A' = lkP l ∧ code ≠ 0 ∧ r = .error code) ∨ (code = 0 ∧ ∃ M', r = .ok M' ∧ SpanA a b ∧ CanA (layA s.f a b none) M' ∧ M'.length ≤ 64 ∧ A' = (lkP l).set n (some ⟨layA s.f a b none, wdZ s.wd a b⟩)) := by
      rcases hd with ⟨d1, rfl, rfl⟩ | ⟨d1, M', d2, ⟨d3, rfl, rfl⟩ | ⟨d3, rfl, rfl⟩⟩
      · exact Or.inl ⟨rfl, by decide, e1 d1⟩
      · exact Or.inl ⟨rfl, by decide, by rw [e2 M' d1 d2, fitR_gt d3]⟩
      · exact Or.inr ⟨rfl, M', by rw [e2 M' d1 d2, fitR_le d3], d1, d2, d3, rfl⟩
    rcases key with ⟨rfl, hc0, hr0⟩ | ⟨rfl, M', hr0, hS, hM, h4, rfl⟩
    · have hno' := hno code hr0
      have hev := errV_ne hc0
      clear hd h1 hok h hx g1 g2 hf k1 k2 k3 hML hr hlay e1 e2 hl hno hyes hr0 hc0
      go_enter Try.func24, Try.ntmps24
      go_wp2_with fail
      refine hof.mono ?_
      rintro e w1 ⟨rfl, hw⟩
      obtain rfl := hw.symm
      clear hw hof
      go_wp2_with fail
      refine hno'.mono ?_
      rintro e w2 ⟨rfl, -, HB2⟩
      go_wp2_with fail
      refine (become_no _ _ _ _).mono ?_
      rintro e w3 ⟨rfl, hw⟩
      obtain rfl := hw.symm
      clear hw
      go_wp2
      go_ret
      exact ⟨congrArg Ending.returned hev.symm, HR.out.below HB2.out⟩
    · have hyes' := hyes M' hr0
      have HE : Hid (∀ v' w', Bec G w (PgX g ⟨v', M', wb, keepW a b l0⟩) w' → Bec F w (FlT p ((lkP l).set n (some ⟨layA s.f a b none, wdZ s.wd a b⟩))) w') := fun v' w' hb =>
        g2 (layS_ok hf.ok hS hM h4) (hb.imp fun {F' w''} k => ⟨_, fits_lay hf hS hM h4, k⟩)
      clear hd h1 hok h hx g1 g2 hf k1 k2 k3 hML hr hlay e1 e2 hl hno hyes hr0 HR hS hM h4
      go_enter Try.func24, Try.ntmps24
      go_wp2_with fail
      refine hof.mono ?_
      rintro e w1 ⟨rfl, hw⟩
      obtain rfl := hw.symm
      clear hw hof
      go_wp2_with fail
      refine hyes'.mono ?_
      rintro e w2 ⟨ao2, n2, c2, rfl, -, HL2, HB2⟩
      go_wp2_with fail
      refine (become_ok _ _ _ _ _ _ _ HL2.out).mono ?_
      rintro e w3 ⟨rfl, rfl⟩
      go_wp2_with fail
      refine (forget_bc HB2.out a b).mono ?_
      rintro e w4 ⟨rfl, v4, HB4⟩
      go_wp2
      go_ret
      exact ⟨rfl, HE.out _ _ HB4.out⟩

theorem chg_key {l : Spl} {A' : Wd} {n a b code : Int} {t : Pg → Pg} {s : Sp} {M : List AAr} {v : Value} {wb : Nat} {l0 : Wds} {r : Except Int (List AAr)} (hf : (PgL.mk v M wb l0).fits s) (hr : EachS M a b t r)
    (hd : (¬ SpanA a b ∧ code = 1 ∧ A' = lkP l) ∨ (SpanA a b ∧ (∃ p, a ≤ p ∧ p < b ∧ s.f p = none) ∧ code = 3 ∧ A' = lkP l) ∨ (SpanA a b ∧ (∀ p, a ≤ p → p < b → s.f p ≠ none) ∧ ∃ M, CanA (mapA s.f a b t) M ∧ ((64 < M.length ∧ code = 5 ∧ A' = lkP l) ∨ (M.length ≤ 64 ∧ code = 0 ∧ A' = (lkP l).set n (some ⟨mapA s.f a b t, s.wd⟩))))) :
    (A' = lkP l ∧ code ≠ 0 ∧ r = .error code) ∨ (code = 0 ∧ ∃ M', r = .ok M' ∧ CanA (mapA s.f a b t) M' ∧ M'.length ≤ 64 ∧ A' = (lkP l).set n (some ⟨mapA s.f a b t, s.wd⟩)) := by
  obtain ⟨e1, e2, e3⟩ := each_r hf hr
  rcases hd with ⟨d1, rfl, rfl⟩ | ⟨d1, d2, rfl, rfl⟩ | ⟨d1, d2, M', d3, ⟨d4, rfl, rfl⟩ | ⟨d4, rfl, rfl⟩⟩
  · exact Or.inl ⟨rfl, by decide, e1 d1⟩
  · exact Or.inl ⟨rfl, by decide, e2 d1 d2⟩
  · exact Or.inl ⟨rfl, by decide, by rw [e3 M' d1 d2 d3, fitR_gt d4]⟩
  · exact Or.inr ⟨rfl, M', by rw [e3 M' d1 d2 d3, fitR_le d4], d3, d4, rfl⟩

set_option maxRecDepth 100000 in
set_option maxHeartbeats 8000000 in
theorem fadvise_any {F : Nat → Prop} {w : World} {p : Nat} {A A' : Wd} {n a b code : Int} {z : Bool} (h : (FlT p A).In F w) (hn : okI n) (hd : ChgD A n a b (fun p => (p.1, p.2.1, z)) code A') :
    Calls Try.prog 31 #[.pointer (some ⟨p, 0, none⟩), .int .i64 n, .int .i64 a, .int .i64 b, .bool z] w (FlP F w p A' code) := by
  have HR : Hid (Bec F w (FlT p A) w) := Bec.refl h
  obtain ⟨⟨m, l⟩, ⟨rfl, hok⟩, h⟩ := h
  simp only at h hok HR hd
  have hof := ofp_any (FlX.box h) (FlX.mp h) hn
  rcases hd with ⟨h1, rfl, rfl⟩ | ⟨s, h1, hd⟩
  · rw [lk_none'.1 h1] at hof
    unfold ofR at hof
    try simp only at hof
    clear h1 hok h
    go_enter Try.func31, Try.ntmps31
    go_wp2_with fail
    refine hof.mono ?_
    rintro e w1 ⟨rfl, hw⟩
    obtain rfl := hw.symm
    clear hw
    go_wp2
    go_ret
    exact ⟨rfl, HR.out⟩
  · obtain ⟨g, hx⟩ := lk_some h1
    rw [hx] at hof
    unfold ofR at hof
    try simp only at hof
    obtain ⟨G, g1, g2⟩ := fl_open h hok hx
    obtain ⟨⟨v, M, wb, l0⟩, hf, g1⟩ := g1
    try simp only at hf g1
    obtain ⟨k1, k2, k3⟩ := pgx_in g1
    try simp only at k1 k2 k3
    obtain ⟨ao, cc, rfl⟩ := k2.form
    have c0 : w.cell? ⟨g, 0, none⟩ = some (.slice ao M.length cc) := by rw [k1.cell]; rfl
    have hML : M.length ≤ maxLen := by have := hf.few; simp only at this; unfold maxLen; omega
    obtain ⟨r, hr, hlay⟩ := advise_tell M a b z
    have hl := hlay w ao cc k2.sn hML
    have hno : ∀ k, r = .error k → Calls Try.prog 52 #[.slice ao M.length cc, .int .i64 a, .int .i64 b, .bool z] w (BcNo w k (fun _ => True)) := fun k hk => hl.mono fun e w1 ht => bc_no (Below.refl _ _) (fun _ _ => trivial) (hk ▸ ht)
    have hyes : ∀ M', r = .ok M' → Calls Try.prog 52 #[.slice ao M.length cc, .int .i64 a, .int .i64 b, .bool z] w (BcOk G w g wb (.slice ao M.length cc) l0 M' (fun _ => True)) := fun M' hk => hl.mono fun e w1 ht => bc_ok g1 (Below.refl _ _) (fun _ _ => trivial) (hk ▸ ht)
    rcases chg_key hf hr hd with ⟨rfl, hc0, hr0⟩ | ⟨rfl, M', hr0, hM, h4, rfl⟩
    · have hno' := hno code hr0
      have hev := errV_ne hc0
      clear hd h1 hok h hx g1 g2 hf k1 k2 k3 hML hr hlay hl hno hyes hr0 hc0
      go_enter Try.func31, Try.ntmps31
      go_wp2_with fail
      refine hof.mono ?_
      rintro e w1 ⟨rfl, hw⟩
      obtain rfl := hw.symm
      clear hw hof
      go_wp2_with fail
      refine hno'.mono ?_
      rintro e w2 ⟨rfl, -, HB2⟩
      go_wp2_with fail
      refine (become_no _ _ _ _).mono ?_
      rintro e w3 ⟨rfl, hw⟩
      obtain rfl := hw.symm
      clear hw
      go_wp2
      go_ret
      exact ⟨congrArg Ending.returned hev.symm, HR.out.below HB2.out⟩
    · have hyes' := hyes M' hr0
      have HE : Hid (∀ v' w', Bec G w (PgX g ⟨v', M', wb, l0⟩) w' → Bec F w (FlT p ((lkP l).set n (some ⟨mapA s.f a b (fun p => (p.1, p.2.1, z)), s.wd⟩))) w') := fun v' w' hb =>
        g2 (mapS_ok hf.ok hM h4) (hb.imp fun {F' w''} k => ⟨_, fits_map hf hM h4, k⟩)
      clear hd h1 hok h hx g1 g2 hf k1 k2 k3 hML hr hlay hl hno hyes hr0 HR hM h4
      go_enter Try.func31, Try.ntmps31
      go_wp2_with fail
      refine hof.mono ?_
      rintro e w1 ⟨rfl, hw⟩
      obtain rfl := hw.symm
      clear hw hof
      go_wp2_with fail
      refine hyes'.mono ?_
      rintro e w2 ⟨ao2, n2, c2, rfl, -, HL2, HB2⟩
      go_wp2_with fail
      refine (become_ok _ _ _ _ _ _ _ HL2.out).mono ?_
      rintro e w3 ⟨rfl, rfl⟩
      go_wp2
      go_ret
      exact ⟨rfl, HE.out _ _ HB2.out⟩

set_option maxRecDepth 100000 in
set_option maxHeartbeats 8000000 in
theorem protect_any {F : Nat → Prop} {w : World} {p : Nat} {A A' : Wd} {n a b code : Int} {x y : Bool} (h : (FlT p A).In F w) (hn : okI n) (hd : ChgD A n a b (fun p => (x, y, p.2.2)) code A') :
    Calls Try.prog 13 #[.pointer (some ⟨p, 0, none⟩), .int .i64 n, .int .i64 a, .int .i64 b, .agg #[.bool x, .bool y]] w (FlP F w p A' code) := by
  have HB0 : Below w.heap.size w (w.alloc (.cells #[.bool x, .bool y] 31)) := new_below _ _
  have HX0 : Laid (w.alloc (.cells #[.bool x, .bool y] 31)) w.heap.size 31 #[.bool x, .bool y] := Laid.new _ _ _
  obtain ⟨F0, h0, hcl⟩ := (In.below h HB0).next
  have HR : Hid (Bec F w (FlT p A) (w.alloc (.cells #[.bool x, .bool y] 31))) := In.below h HB0
  clear h
  generalize hW : w.alloc (.cells #[.bool x, .bool y] 31) = W at *
  obtain ⟨⟨m, l⟩, ⟨rfl, hok⟩, h⟩ := h0
  simp only at h hok HR hd
  have hof := ofp_any (FlX.box h) (FlX.mp h) hn
  rcases hd with ⟨h1, rfl, rfl⟩ | ⟨s, h1, hd⟩
  · rw [lk_none'.1 h1] at hof
    unfold ofR at hof
    try simp only at hof
    clear h1 hok h hcl HB0 HX0
    go_enter Try.func13, Try.ntmps13
    go_wp2_with fail
    refine hof.mono ?_
    rintro e w1 ⟨rfl, hw⟩
    obtain rfl := hw.symm
    clear hw hW
    go_wp2
    go_ret
    exact ⟨rfl, HR.out⟩
  · obtain ⟨g, hx⟩ := lk_some h1
    rw [hx] at hof
    unfold ofR at hof
    try simp only at hof
    obtain ⟨G, g1, g2⟩ := fl_open h hok hx
    obtain ⟨⟨v, M, wb, l0⟩, hf, g1⟩ := g1
    try simp only at hf g1
    obtain ⟨k1, k2, k3⟩ := pgx_in g1
    try simp only at k1 k2 k3
    obtain ⟨ao, cc, rfl⟩ := k2.form
    have c0 : W.cell? ⟨g, 0, none⟩ = some (.slice ao M.length cc) := by rw [k1.cell]; rfl
    have r0 : W.cell? ⟨w.heap.size, 0, none⟩ = some (.bool x) := by rw [HX0.cell]; rfl
    have r1 : W.cell? ⟨w.heap.size, 1, none⟩ = some (.bool y) := by rw [HX0.cell]; rfl
    have hML : M.length ≤ maxLen := by have := hf.few; simp only at this; unfold maxLen; omega
    obtain ⟨r, hr, hlay⟩ := change_tell M a b x y
    have hl : ∀ W', Below W.heap.size W W' → Calls Try.prog 39 #[.slice ao M.length cc, .int .i64 a, .int .i64 b, .agg #[.bool x, .bool y]] W' (TellW W' r) := fun W' hb => hlay W' ao cc (k2.sn.below hb) hML
    have hSS : ∀ w', Below W.heap.size W w' → w'.cell? ⟨g, 0, none⟩ = some (.slice ao M.length cc) ∧ w'.cell? ⟨w.heap.size, 0, none⟩ = some (.bool x) ∧ w'.cell? ⟨w.heap.size, 1, none⟩ = some (.bool y) := fun w' hb' => ⟨(hb'.cell k1.lt).trans c0, (hb'.cell HX0.lt).trans r0, (hb'.cell HX0.lt).trans r1⟩
    have hno : ∀ k, r = .error k → ∀ W', Below W.heap.size W W' → Calls Try.prog 39 #[.slice ao M.length cc, .int .i64 a, .int .i64 b, .agg #[.bool x, .bool y]] W' (BcNo W k (fun w' => w'.cell? ⟨g, 0, none⟩ = some (.slice ao M.length cc) ∧ w'.cell? ⟨w.heap.size, 0, none⟩ = some (.bool x) ∧ w'.cell? ⟨w.heap.size, 1, none⟩ = some (.bool y))) := fun k hk W' hb => (hl W' hb).mono fun e w1 ht => bc_no hb hSS (hk ▸ ht)
    have hyes : ∀ M', r = .ok M' → ∀ W', Below W.heap.size W W' → Calls Try.prog 39 #[.slice ao M.length cc, .int .i64 a, .int .i64 b, .agg #[.bool x, .bool y]] W' (BcOk G W g wb (.slice ao M.length cc) l0 M' (fun w' => w'.cell? ⟨g, 0, none⟩ = some (.slice ao M.length cc) ∧ w'.cell? ⟨w.heap.size, 0, none⟩ = some (.bool x) ∧ w'.cell? ⟨w.heap.size, 1, none⟩ = some (.bool y))) := fun M' hk W' hb => (hl W' hb).mono fun e w1 ht => bc_ok g1 hb hSS (hk ▸ ht)
    clear hSS
    rcases chg_key hf hr hd with ⟨rfl, hc0, hr0⟩ | ⟨rfl, M', hr0, hM, h4, rfl⟩
    · have hno' := hno code hr0
      have hev := errV_ne hc0
      clear hd h1 hok h hx g1 g2 hf k1 k2 k3 hML hr hlay hl hno hyes hr0 HX0 hcl HB0 hc0
      go_enter Try.func13, Try.ntmps13
      go_wp2_with fail
      refine hof.mono ?_
      rintro e w1 ⟨rfl, hw⟩
      obtain rfl := hw.symm
      clear hw hW hof
      go_wp2_with fail
      go_region_held3 (fun w' => w'.cell? ⟨g, 0, none⟩ = some (.slice ao M.length cc) ∧ w'.cell? ⟨w.heap.size, 0, none⟩ = some (.bool x) ∧ w'.cell? ⟨w.heap.size, 1, none⟩ = some (.bool y)) (go_keep) (first | (go_at_call 39; refine (hno' _ ?q1).mono ?_; (case q1 => first | exact Below.refl _ _ | exact (Below.refl _ _).drew); rintro e w2 ⟨rfl, ⟨x0, x1, x2⟩, HB2⟩) | (go_at_call 38; refine (become_no _ _ _ _).mono ?_; rintro e w3 ⟨rfl, rfl⟩))
      go_wp2
      go_ret
      exact ⟨congrArg Ending.returned hev.symm, HR.out.below HB2.out⟩
    · have hyes' := hyes M' hr0
      have HE : Hid (∀ v' w', Bec G W (PgX g ⟨v', M', wb, l0⟩) w' → Bec F w (FlT p ((lkP l).set n (some ⟨mapA s.f a b (fun p => (x, y, p.2.2)), s.wd⟩))) w') := fun v' w' hb =>
        hcl (g2 (mapS_ok hf.ok hM h4) (hb.imp fun {F' w''} k => ⟨_, fits_map hf hM h4, k⟩))
      clear hd h1 hok h hx g1 g2 hf k1 k2 k3 hML hr hlay hl hno hyes hr0 HX0 hcl HB0 HR hM h4
      go_enter Try.func13, Try.ntmps13
      go_wp2_with fail
      refine hof.mono ?_
      rintro e w1 ⟨rfl, hw⟩
      obtain rfl := hw.symm
      clear hw hW hof
      go_wp2_with fail
      refine wp_region_X (fun w' => w'.cell? ⟨g, 0, none⟩ = some (.slice ao M.length cc) ∧ w'.cell? ⟨w.heap.size, 0, none⟩ = some (.bool x) ∧ w'.cell? ⟨w.heap.size, 1, none⟩ = some (.bool y)) [11, 12] (by kernel_rfl) ?_
      have hHeld : W.drew.cell? ⟨g, 0, none⟩ = some (.slice ao M.length cc) ∧ W.drew.cell? ⟨w.heap.size, 0, none⟩ = some (.bool x) ∧ W.drew.cell? ⟨w.heap.size, 1, none⟩ = some (.bool y) := ⟨c0, r0, r1⟩
      refine wpAnyX_take (i := 0) (v := ?v0) rfl (by kernel_rfl) (by kernel_rfl) (by kernel_rfl) (by kernel_rfl) (by kernel_rfl) (fun _ _ _ h => h) (Or.inl ⟨by rfl, ?hy0⟩) hHeld ?rest0
      case hy0 => intro w hSw; (try dsimp only at hSw); go_simp; try with_reducible rfl
      case rest0 =>
      simp only [Act.put, List.setIfInBounds_toArray, List.set_cons_zero, List.set_cons_succ, List.getElem_toArray, List.getElem_cons_zero]
      refine wpAnyX_take (i := 1) (v := ?v1) rfl (by kernel_rfl) (by kernel_rfl) (by kernel_rfl) (by kernel_rfl) (by kernel_rfl) (fun _ _ _ h => h) (Or.inl ⟨by rfl, ?hy1⟩) hHeld ?rest1
      case hy1 => intro w hSw; (try dsimp only at hSw); go_simp; try with_reducible rfl
      case rest1 =>
      simp only [Act.put, List.setIfInBounds_toArray, List.set_cons_zero, List.set_cons_succ, List.getElem_toArray, List.getElem_cons_zero, List.getElem_cons_succ]
      refine wpAnyX_take (i := 2) (v := ?v2) rfl (by kernel_rfl) (by kernel_rfl) (by kernel_rfl) (by kernel_rfl) (by kernel_rfl) (fun _ _ _ h => h) (Or.inl ⟨by rfl, ?hy2⟩) hHeld ?rest2
      case hy2 => intro w hSw; (try dsimp only at hSw); go_simp; try with_reducible rfl
      case rest2 =>
      simp only [Act.put, List.setIfInBounds_toArray, List.set_cons_zero, List.set_cons_succ, List.getElem_toArray, List.getElem_cons_zero, List.getElem_cons_succ]
      refine wpAnyX_take (i := 3) (v := ?v3) rfl (by kernel_rfl) (by kernel_rfl) (by kernel_rfl) (by kernel_rfl) (by kernel_rfl) (fun _ _ _ h => h) (Or.inl ⟨by rfl, ?hy3⟩) hHeld ?rest3
      case hy3 => intro w hSw; (try dsimp only at hSw); go_simp; try with_reducible rfl
      case rest3 =>
      simp only [Act.put, List.setIfInBounds_toArray, List.set_cons_zero, List.set_cons_succ, List.getElem_toArray, List.getElem_cons_zero, List.getElem_cons_succ]
      refine wpAnyX_take (i := 4) (v := ?v4) rfl (by kernel_rfl) (by kernel_rfl) (by kernel_rfl) (by kernel_rfl) (by kernel_rfl) (fun _ _ _ h => h) (Or.inl ⟨by rfl, ?hy4⟩) hHeld ?rest4
      case hy4 => intro w hSw; (try dsimp only at hSw); go_simp; try with_reducible rfl
      case rest4 =>
      simp only [Act.put, List.setIfInBounds_toArray, List.set_cons_zero, List.set_cons_succ, List.getElem_toArray, List.getElem_cons_zero, List.getElem_cons_succ]
      refine wpAnyX_take (i := 5) (v := ?v5) rfl (by kernel_rfl) (by kernel_rfl) (by kernel_rfl) (by kernel_rfl) (by kernel_rfl) (fun _ _ _ h => h) (Or.inl ⟨by rfl, ?hy5⟩) hHeld ?rest5
      case hy5 => intro w hSw; (try dsimp only at hSw); go_simp; try with_reducible rfl
      case rest5 =>
      simp only [Act.put, List.setIfInBounds_toArray, List.set_cons_zero, List.set_cons_succ, List.getElem_toArray, List.getElem_cons_zero, List.getElem_cons_succ]
      refine wpAnyX_take (i := 6) (v := ?v6) rfl (by kernel_rfl) (by kernel_rfl) (by kernel_rfl) (by kernel_rfl) (by kernel_rfl) (fun _ _ _ h => h) (Or.inl ⟨by rfl, ?hy6⟩) hHeld ?rest6
      case hy6 => intro w hSw; (try dsimp only at hSw); go_simp; try with_reducible rfl
      case rest6 =>
      simp only [Act.put, List.setIfInBounds_toArray, List.set_cons_zero, List.set_cons_succ, List.getElem_toArray, List.getElem_cons_zero, List.getElem_cons_succ]
      refine wpAnyX_take (i := 7) (v := ?v7) rfl (by kernel_rfl) (by kernel_rfl) (by kernel_rfl) (by kernel_rfl) (by kernel_rfl) (fun _ _ _ h => h) (Or.inl ⟨by rfl, ?hy7⟩) hHeld ?rest7
      case hy7 => intro w hSw; (try dsimp only at hSw); go_simp; try with_reducible rfl
      case rest7 =>
      simp only [Act.put, List.setIfInBounds_toArray, List.set_cons_zero, List.set_cons_succ, List.getElem_toArray, List.getElem_cons_zero, List.getElem_cons_succ]
      refine wpAnyX_one (i := 8) (by kernel_rfl) rfl (fun K hK => ?_)
      go_simp
      refine (hyes' _ (Below.refl _ _).drew).mono ?_
      rintro e w2 ⟨ao2, n2, c2, rfl, HC2, HL2, HB2⟩
      refine hK.out _ _ HC2 ?_
      clear hK K hHeld
      have hHeld := HC2
      refine wpAnyX_take (i := 9) (v := ?v9) rfl (by kernel_rfl) (by kernel_rfl) (by kernel_rfl) (by kernel_rfl) (by kernel_rfl) (fun _ _ _ h => h) (Or.inl ⟨by rfl, ?hy9⟩) hHeld ?rest9
      case hy9 => intro w hSw; (try dsimp only at hSw); go_simp; try with_reducible rfl
      case rest9 =>
      simp only [Act.put, List.setIfInBounds_toArray, List.set_cons_zero, List.set_cons_succ, List.getElem_toArray, List.getElem_cons_zero, List.getElem_cons_succ]
      refine wpAnyX_take (i := 10) (v := ?v10) rfl (by kernel_rfl) (by kernel_rfl) (by kernel_rfl) (by kernel_rfl) (by kernel_rfl) (fun _ _ _ h => h) (Or.inl ⟨by rfl, ?hy10⟩) hHeld ?rest10
      case hy10 => intro w hSw; (try dsimp only at hSw); go_simp; try with_reducible rfl
      case rest10 =>
      simp only [Act.put, List.setIfInBounds_toArray, List.set_cons_zero, List.set_cons_succ, List.getElem_toArray, List.getElem_cons_zero, List.getElem_cons_succ]
      refine wpAnyX_last (i := 11) (by kernel_rfl) rfl (by kernel_rfl) (fun K hK => ?_)
      go_simp
      refine (become_ok _ _ _ _ _ _ _ HL2.out).mono ?_
      rintro e w3 ⟨rfl, rfl⟩
      refine hK.out _ _ ?_
      clear hK K
      refine wpAnyX_last (i := 12) (by kernel_rfl) rfl (by kernel_rfl) (fun K hK => ?_)
      go_simp
      refine hK.out _ _ ?_
      clear hK K hHeld HC2
      refine wpAnyX_done (by kernel_rfl) ?_ _
      go_wp2
      go_ret
      exact ⟨rfl, HE.out _ _ HB2.out⟩
end Go.Proofs.Ytoimmapdkapheaa
