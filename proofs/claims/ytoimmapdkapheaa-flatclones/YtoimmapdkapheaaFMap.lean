/- Map, Unmap. -/
import Derived.Test.YtoimmapdkapheaaFLay
import Derived.Test.YtoimmapdkapheaaZReg
namespace Go.Proofs.Ytoimmapdkapheaa
set_option maxRecDepth 4000
open Go.RowKit

/-- Behind 'become': the pages as they are to be, but for the words that are to go. -/
def BmOk (G : Nat → Prop) (w : World) (g wb : Nat) (l : Wds) (M' : List AAr) (a b : Int) (e : Ending) (w' : World) : Prop :=
  e = .returned (.tuple #[]) ∧ ∃ v', Hid (Bec G w (PgX g ⟨v', M', wb, keepW a b l⟩) w')
theorem forget_bc {G : Nat → Prop} {w w2 : World} {g wb : Nat} {v' : Value} {l : Wds} {M' : List AAr} (h : Bec G w (PgX g ⟨v', M', wb, l⟩) w2) (a b : Int) :
    Calls Try.prog 44 #[.pointer (some ⟨g, 0, none⟩), .int .i64 a, .int .i64 b] w2 (BmOk G w g wb l M' a b) := by
  obtain ⟨A, k1, k2⟩ := h.next
  obtain ⟨k3, _, k4⟩ := pgx_in k1
  refine (forget_any k3 k4 a b).mono fun e w' hp => ?_
  obtain ⟨rfl, h1, h2⟩ := hp
  exact ⟨rfl, v', k2 (pg_forget k1 h1 h2)⟩
set_option maxRecDepth 100000 in
set_option maxHeartbeats 8000000 in
theorem map_any {F : Nat → Prop} {w : World} {p : Nat} {A A' : Wd} {n a b code : Int} {x y : Bool} (h : (FlT p A).In F w) (hn : okI n) (hd : LayD A n a b (some (x, y, false)) code A') :
    Calls Try.prog 17 #[.pointer (some ⟨p, 0, none⟩), .int .i64 n, .int .i64 a, .int .i64 b, .agg #[.bool x, .bool y]] w (FlP F w p A' code) := by
  have HB0 : Below w.heap.size w (w.alloc (.cells #[.bool x, .bool y] 31)) := new_below _ _
  have HX0 : Laid (w.alloc (.cells #[.bool x, .bool y] 31)) w.heap.size 31 #[.bool x, .bool y] := Laid.new _ _ _
  obtain ⟨F0, h0, hcl⟩ := (In.below h HB0).next
  have HR : Hid (Bec F w (FlT p A) (w.alloc (.cells #[.bool x, .bool y] 31))) := In.below h HB0
  clear h
  generalize hW : w.alloc (.cells #[.bool x, .bool y] 31) = W at *
  obtain ⟨⟨m, l⟩, ⟨rfl, hok⟩, h⟩ := h0
  simp only at h hok HR hd
  have hof := ofp_any (FlX.box h) (FlX.mp h) hn
  rcases hd with ⟨h1, rfl, rfl⟩ | ⟨s, h1, hd⟩
  · rw [lk_none'.1 h1] at hof
    unfold ofR at hof
    try simp only at hof
    clear h1 hok h hcl HB0 HX0
    go_enter Try.func17, Try.ntmps17
    go_wp2_with fail
    refine hof.mono ?_
    rintro e w1 ⟨rfl, hw⟩
    obtain rfl := hw.symm
    clear hw hW
    go_wp2
    go_ret
    exact ⟨rfl, HR.out⟩
  · obtain ⟨g, hx⟩ := lk_some h1
    rw [hx] at hof
    unfold ofR at hof
    try simp only at hof
    obtain ⟨G, g1, g2⟩ := fl_open h hok hx
    obtain ⟨⟨v, M, wb, l0⟩, hf, g1⟩ := g1
    try simp only at hf g1
    obtain ⟨k1, k2, k3⟩ := pgx_in g1
    try simp only at k1 k2 k3
    obtain ⟨ao, cc, rfl⟩ := k2.form
    have c0 : W.cell? ⟨g, 0, none⟩ = some (.slice ao M.length cc) := by rw [k1.cell]; rfl
    have r0 : W.cell? ⟨w.heap.size, 0, none⟩ = some (.bool x) := by rw [HX0.cell]; rfl
    have r1 : W.cell? ⟨w.heap.size, 1, none⟩ = some (.bool y) := by rw [HX0.cell]; rfl
    have hML : M.length ≤ maxLen := by have := hf.few; simp only at this; unfold maxLen; omega
    obtain ⟨r, hr, hlay⟩ := lay_tell M ⟨a, b, x, y, false⟩
    obtain ⟨e1, e2⟩ := lay_r (a := a) (b := b) (t := some (x, y, false)) hf hr
    have hl : ∀ W', Below W.heap.size W W' → Calls Try.prog 43 #[.slice ao M.length cc, av ⟨a, b, x, y, false⟩] W' (TellW W' r) := fun W' hb => hlay W' ao cc (k2.sn.below hb) hML
    have hno : ∀ k, r = .error k → ∀ W', Below W.heap.size W W' → Calls Try.prog 43 #[.slice ao M.length cc, .agg #[.int .i64 a, .int .i64 b, .bool x, .bool y, .bool false]] W' (BcNo W k (fun w' => w'.cell? ⟨g, 0, none⟩ = some (.slice ao M.length cc) ∧ w'.cell? ⟨w.heap.size, 0, none⟩ = some (.bool x) ∧ w'.cell? ⟨w.heap.size, 1, none⟩ = some (.bool y))) := fun k hk W' hb => (hl W' hb).mono fun e w1 ht => bc_no hb (fun w' hb' => ⟨(hb'.cell k1.lt).trans c0, (hb'.cell HX0.lt).trans r0, (hb'.cell HX0.lt).trans r1⟩) (hk ▸ ht)
    have hyes : ∀ M', r = .ok M' → ∀ W', Below W.heap.size W W' → Calls Try.prog 43 #[.slice ao M.length cc, .agg #[.int .i64 a, .int .i64 b, .bool x, .bool y, .bool false]] W' (BcOk G W g wb (.slice ao M.length cc) l0 M' (fun w' => w'.cell? ⟨g, 0, none⟩ = some (.slice ao M.length cc) ∧ w'.cell? ⟨w.heap.size, 0, none⟩ = some (.bool x) ∧ w'.cell? ⟨w.heap.size, 1, none⟩ = some (.bool y))) := fun M' hk W' hb => (hl W' hb).mono fun e w1 ht => bc_ok g1 hb (fun w' hb' => ⟨(hb'.cell k1.lt).trans c0, (hb'.cell HX0.lt).trans r0, (hb'.cell HX0.lt).trans r1⟩) (hk ▸ ht)
    have key : (A' = lkP l ∧ code ≠ 0 ∧ r = .error code) ∨ (code = 0 ∧ ∃ M', r = .ok M' ∧ SpanA a b ∧ CanA (layA s.f a b (some (x, y, false))) M' ∧ M'.length ≤ 64 ∧ A' = (lkP l).set n (some ⟨layA s.f a b (some (x, y, false)), wdZ s.wd a b⟩)) := by
      rcases hd with ⟨d1, rfl, rfl⟩ | ⟨d1, M', d2, ⟨d3, rfl, rfl⟩ | ⟨d3, rfl, rfl⟩⟩
      · exact Or.inl ⟨rfl, by decide, e1 d1⟩
      · exact Or.inl ⟨rfl, by decide, by rw [e2 M' d1 d2, fitR_gt d3]⟩
      · exact Or.inr ⟨rfl, M', by rw [e2 M' d1 d2, fitR_le d3], d1, d2, d3, rfl⟩
    rcases key with ⟨rfl, hc0, hr0⟩ | ⟨rfl, M', hr0, hS, hM, h4, rfl⟩
    · have hno' := hno code hr0
      have hev := errV_ne hc0
      clear hd h1 hok h hx g1 g2 hf k1 k2 k3 hML hr hlay e1 e2 hl hno hyes hr0 HX0 hcl HB0 hc0
      go_enter Try.func17, Try.ntmps17
      go_wp2_with fail
      refine hof.mono ?_
      rintro e w1 ⟨rfl, hw⟩
      obtain rfl := hw.symm
      clear hw hW hof
      go_wp2_with fail
      go_region_held3 (fun w' => w'.cell? ⟨g, 0, none⟩ = some (.slice ao M.length cc) ∧ w'.cell? ⟨w.heap.size, 0, none⟩ = some (.bool x) ∧ w'.cell? ⟨w.heap.size, 1, none⟩ = some (.bool y)) (go_keep) (first | (go_at_call 43; refine (hno' _ ?q1).mono ?_; (case q1 => first | exact Below.refl _ _ | exact (Below.refl _ _).drew); rintro e w2 ⟨rfl, ⟨x0, x1, x2⟩, HB2⟩) | (go_at_call 38; refine (become_no _ _ _ _).mono ?_; rintro e w3 ⟨rfl, rfl⟩))
      go_wp2
      go_ret
      exact ⟨congrArg Ending.returned hev.symm, HR.out.below HB2.out⟩
    · have hyes' := hyes M' hr0
      have HE : Hid (∀ v' w', Bec G W (PgX g ⟨v', M', wb, keepW a b l0⟩) w' → Bec F w (FlT p ((lkP l).set n (some ⟨layA s.f a b (some (x, y, false)), wdZ s.wd a b⟩))) w') := fun v' w' hb =>
        hcl (g2 (layS_ok hf.ok hS hM h4) (hb.imp fun {F' w''} k => ⟨_, fits_lay hf hS hM h4, k⟩))
      clear hd h1 hok h hx g1 g2 hf k1 k2 k3 hML hr hlay e1 e2 hl hno hyes hr0 HX0 hcl HB0 HR hS hM h4
      go_enter Try.func17, Try.ntmps17
      go_wp2_with fail
      refine hof.mono ?_
      rintro e w1 ⟨rfl, hw⟩
      obtain rfl := hw.symm
      clear hw hW hof
      go_wp2_with fail
      refine wp_region_X (fun w' => w'.cell? ⟨g, 0, none⟩ = some (.slice ao M.length cc) ∧ w'.cell? ⟨w.heap.size, 0, none⟩ = some (.bool x) ∧ w'.cell? ⟨w.heap.size, 1, none⟩ = some (.bool y)) [12, 13] (by kernel_rfl) ?_
      have hHeld : W.drew.cell? ⟨g, 0, none⟩ = some (.slice ao M.length cc) ∧ W.drew.cell? ⟨w.heap.size, 0, none⟩ = some (.bool x) ∧ W.drew.cell? ⟨w.heap.size, 1, none⟩ = some (.bool y) := ⟨c0, r0, r1⟩
      refine wpAnyX_take (i := 0) (v := ?v0) rfl (by kernel_rfl) (by kernel_rfl) (by kernel_rfl) (by kernel_rfl) (by kernel_rfl) (fun _ _ _ h => h) (Or.inl ⟨by rfl, ?hy0⟩) hHeld ?rest0
      case hy0 => intro w hSw; (try dsimp only at hSw); go_simp; try with_reducible rfl
      case rest0 =>
      simp only [Act.put, List.setIfInBounds_toArray, List.set_cons_zero, List.set_cons_succ, List.getElem_toArray, List.getElem_cons_zero]
      refine wpAnyX_take (i := 1) (v := ?v1) rfl (by kernel_rfl) (by kernel_rfl) (by kernel_rfl) (by kernel_rfl) (by kernel_rfl) (fun _ _ _ h => h) (Or.inl ⟨by rfl, ?hy1⟩) hHeld ?rest1
      case hy1 => intro w hSw; (try dsimp only at hSw); go_simp; try with_reducible rfl
      case rest1 =>
      simp only [Act.put, List.setIfInBounds_toArray, List.set_cons_zero, List.set_cons_succ, List.getElem_toArray, List.getElem_cons_zero, List.getElem_cons_succ]
      refine wpAnyX_take (i := 2) (v := ?v2) rfl (by kernel_rfl) (by kernel_rfl) (by kernel_rfl) (by kernel_rfl) (by kernel_rfl) (fun _ _ _ h => h) (Or.inl ⟨by rfl, ?hy2⟩) hHeld ?rest2
      case hy2 => intro w hSw; (try dsimp only at hSw); go_simp; try with_reducible rfl
      case rest2 =>
      simp only [Act.put, List.setIfInBounds_toArray, List.set_cons_zero, List.set_cons_succ, List.getElem_toArray, List.getElem_cons_zero, List.getElem_cons_succ]
      refine wpAnyX_take (i := 3) (v := ?v3) rfl (by kernel_rfl) (by kernel_rfl) (by kernel_rfl) (by kernel_rfl) (by kernel_rfl) (fun _ _ _ h => h) (Or.inl ⟨by rfl, ?hy3⟩) hHeld ?rest3
      case hy3 => intro w hSw; (try dsimp only at hSw); go_simp; try with_reducible rfl
      case rest3 =>
      simp only [Act.put, List.setIfInBounds_toArray, List.set_cons_zero, List.set_cons_succ, List.getElem_toArray, List.getElem_cons_zero, List.getElem_cons_succ]
      refine wpAnyX_take (i := 4) (v := ?v4) rfl (by kernel_rfl) (by kernel_rfl) (by kernel_rfl) (by kernel_rfl) (by kernel_rfl) (fun _ _ _ h => h) (Or.inl ⟨by rfl, ?hy4⟩) hHeld ?rest4
      case hy4 => intro w hSw; (try dsimp only at hSw); go_simp; try with_reducible rfl
      case rest4 =>
      simp only [Act.put, List.setIfInBounds_toArray, List.set_cons_zero, List.set_cons_succ, List.getElem_toArray, List.getElem_cons_zero, List.getElem_cons_succ]
      refine wpAnyX_take (i := 5) (v := ?v5) rfl (by kernel_rfl) (by kernel_rfl) (by kernel_rfl) (by kernel_rfl) (by kernel_rfl) (fun _ _ _ h => h) (Or.inl ⟨by rfl, ?hy5⟩) hHeld ?rest5
      case hy5 => intro w hSw; (try dsimp only at hSw); go_simp; try with_reducible rfl
      case rest5 =>
      simp only [Act.put, List.setIfInBounds_toArray, List.set_cons_zero, List.set_cons_succ, List.getElem_toArray, List.getElem_cons_zero, List.getElem_cons_succ]
      refine wpAnyX_take (i := 6) (v := ?v6) rfl (by kernel_rfl) (by kernel_rfl) (by kernel_rfl) (by kernel_rfl) (by kernel_rfl) (fun _ _ _ h => h) (Or.inl ⟨by rfl, ?hy6⟩) hHeld ?rest6
      case hy6 => intro w hSw; (try dsimp only at hSw); go_simp; try with_reducible rfl
      case rest6 =>
      simp only [Act.put, List.setIfInBounds_toArray, List.set_cons_zero, List.set_cons_succ, List.getElem_toArray, List.getElem_cons_zero, List.getElem_cons_succ]
      refine wpAnyX_take (i := 7) (v := ?v7) rfl (by kernel_rfl) (by kernel_rfl) (by kernel_rfl) (by kernel_rfl) (by kernel_rfl) (fun _ _ _ h => h) (Or.inl ⟨by rfl, ?hy7⟩) hHeld ?rest7
      case hy7 => intro w hSw; (try dsimp only at hSw); go_simp; try with_reducible rfl
      case rest7 =>
      simp only [Act.put, List.setIfInBounds_toArray, List.set_cons_zero, List.set_cons_succ, List.getElem_toArray, List.getElem_cons_zero, List.getElem_cons_succ]
      refine wpAnyX_take (i := 8) (v := ?v8) rfl (by kernel_rfl) (by kernel_rfl) (by kernel_rfl) (by kernel_rfl) (by kernel_rfl) (fun _ _ _ h => h) (Or.inl ⟨by rfl, ?hy8⟩) hHeld ?rest8
      case hy8 => intro w hSw; (try dsimp only at hSw); go_simp; try with_reducible rfl
      case rest8 =>
      simp only [Act.put, List.setIfInBounds_toArray, List.set_cons_zero, List.set_cons_succ, List.getElem_toArray, List.getElem_cons_zero, List.getElem_cons_succ]
      refine wpAnyX_one (i := 9) (by kernel_rfl) rfl (fun K hK => ?_)
      go_simp
      refine (hyes' _ (Below.refl _ _).drew).mono ?_
      rintro e w2 ⟨ao2, n2, c2, rfl, HC2, HL2, HB2⟩
      refine hK.out _ _ HC2 ?_
      clear hK K hHeld
      have hHeld := HC2
      refine wpAnyX_take (i := 10) (v := ?v10) rfl (by kernel_rfl) (by kernel_rfl) (by kernel_rfl) (by kernel_rfl) (by kernel_rfl) (fun _ _ _ h => h) (Or.inl ⟨by rfl, ?hy10⟩) hHeld ?rest10
      case hy10 => intro w hSw; (try dsimp only at hSw); go_simp; try with_reducible rfl
      case rest10 =>
      simp only [Act.put, List.setIfInBounds_toArray, List.set_cons_zero, List.set_cons_succ, List.getElem_toArray, List.getElem_cons_zero, List.getElem_cons_succ]
      refine wpAnyX_take (i := 11) (v := ?v11) rfl (by kernel_rfl) (by kernel_rfl) (by kernel_rfl) (by kernel_rfl) (by kernel_rfl) (fun _ _ _ h => h) (Or.inl ⟨by rfl, ?hy11⟩) hHeld ?rest11
      case hy11 => intro w hSw; (try dsimp only at hSw); go_simp; try with_reducible rfl
      case rest11 =>
      simp only [Act.put, List.setIfInBounds_toArray, List.set_cons_zero, List.set_cons_succ, List.getElem_toArray, List.getElem_cons_zero, List.getElem_cons_succ]
      refine wpAnyX_last (i := 12) (by kernel_rfl) rfl (by kernel_rfl) (fun K hK => ?_)
      go_simp
      refine (become_ok _ _ _ _ _ _ _ HL2.out).mono ?_
      rintro e w3 ⟨rfl, rfl⟩
      refine hK.out _ _ ?_
      clear hK K
      refine wpAnyX_last (i := 13) (by kernel_rfl) rfl (by kernel_rfl) (fun K hK => ?_)
      go_simp
      refine hK.out _ _ ?_
      clear hK K hHeld HC2
      refine wpAnyX_done (by kernel_rfl) ?_ _
      go_wp2_with fail
      refine (forget_bc HB2.out a b).mono ?_
      rintro e w4 ⟨rfl, v4, HB4⟩
      go_wp2
      go_ret
      exact ⟨rfl, HE.out _ _ HB4.out⟩
end Go.Proofs.Ytoimmapdkapheaa
