/- The document's Fork. -/
import Derived.Test.YtoimmapdkapheaaFCp
namespace Go.Proofs.Ytoimmapdkapheaa
set_option maxRecDepth 4000
open Go.RowKit

theorem all_at : ∀ (T : Sps) (i : Nat), i < T.length → ∃ A B, T = A ++ T.getD i zT :: B ∧ A.length = i
  | [], i, h => by simp at h
  | x :: T, 0, _ => ⟨[], T, by simp, rfl⟩
  | x :: T, i + 1, h => by
    obtain ⟨A, B, e, el⟩ := all_at T i (by simpa using h)
    refine ⟨x :: A, B, ?_, by simp [el]⟩
    rw [show (x :: T).getD (i + 1) zT = T.getD i zT by simp, List.cons_append, ← e]
/-- One of the spaces in front. -/
theorem fm_pick (q : Nat) (v : Value) (A B : Sps) (x : SpV × Sp) (T : Sps) (hT : T = A ++ x :: B) :
    (FmX q v T).le ((spT x).and ((Th.box q 29 #[v]).and ((Th.row rSp v (heads T)).and (Th.all (spTs (A ++ B)))))) := fun {F w} h => by
  refine Th.le.trans (and_mono (Th.le.refl _) (Th.le.trans (and_mono (Th.le.refl _) ?_) (and_left _ _ _))) (and_left _ _ _) h
  rw [hT]
  simp only [spTs, List.map_append, List.map_cons]
  exact all_pick _ _ _
theorem fm_see {F : Nat → Prop} {w : World} {q : Nat} {v : Value} {T : Sps} (h : (FmX q v T).In F w) {i : Nat} (hi : i < T.length) : Row rAPg 0 w (T.getD i zT).1.vp (pagesA (T.getD i zT).2.f) ∧ Row rW8 0 w (T.getD i zT).1.vw (wordsA (T.getD i zT).2.wd) := by
  obtain ⟨A, B, e, _⟩ := all_at T i hi
  obtain ⟨_, _, _, _, ⟨_, _, _, _, h1, h2⟩, _⟩ := fm_pick q v A B _ T e h
  exact ⟨h1.2, h2.2⟩
/-- The cells of a space's head. -/
theorem fm_at {F : Nat → Prop} {w : World} {q : Nat} {v : Value} {T : Sps} (h : (FmX q v T).In F w) {i : Nat} (hi : i < T.length) : ∃ g c, v = .slice (some ⟨g, 0, none⟩) T.length c ∧ g < w.heap.size ∧ At rSp w g (i * 3) (T.getD i zT).1 := by
  have hrow := FmX.row h
  obtain ⟨ao, c, rfl⟩ := hrow.form
  obtain ⟨g, rfl, -, -, hlt, -, -, hat⟩ := hrow.at (show i < (heads T).length by rw [heads_len]; exact hi)
  rw [show (heads T).getD i rSp.zero = (T.getD i zT).1 from heads_get T hi] at hat
  rw [heads_len]
  exact ⟨g, c, rfl, hlt, hat⟩
/-- The cells that a region reads. -/
def HdC (w : World) (q g i : Nat) (v : Value) (x : SpV) : Prop := w.cell? ⟨q, 0, none⟩ = some v ∧ w.cell? ⟨g, i * 3, none⟩ = some (.int .i64 x.n) ∧ w.cell? ⟨g, i * 3 + 1, none⟩ = some x.vp ∧ w.cell? ⟨g, i * 3 + 2, none⟩ = some x.vw
/-- Behind Copy: what the append and the store will leave. -/
def FkP (F : Nat → Prop) (w : World) (q g i : Nat) (v : Value) (x : SpV) (k : Int) (A' : Wd) (e : Ending) (w1 : World) : Prop :=
  ∃ gp cp gw cw ao n c w4, e = .returned (.agg #[.int .i64 k, .slice (some ⟨gp, 0, none⟩) 4096 cp, .slice (some ⟨gw, 0, none⟩) 4096 cw]) ∧ HdC w1 q g i v x ∧ (∀ o, HdC (w1.alloc o) q g i v x) ∧
    (Builtin.append_ #[27, 27] 27 #[v, .slice (some ⟨w1.heap.size, 0, none⟩) 1 1]).run Try.prog (w1.alloc (.cells #[.int .i64 k, .slice (some ⟨gp, 0, none⟩) 4096 cp, .slice (some ⟨gw, 0, none⟩) 4096 cw] 59)) = .ok (.slice ao n c) w4 ∧
    HdC w4 q g i v x ∧ w4.frozen? ⟨q, 0, none⟩ = false ∧ Hid (Bec F w (FmT q A') (w4.setCell ⟨q, 0, none⟩ (.slice ao n c)))
theorem hdc_of {w : World} {q g i : Nat} {v : Value} {x : SpV} (h0 : w.cell? ⟨q, 0, none⟩ = some v) (h : At rSp w g (i * 3) x) : HdC w q g i v x := ⟨h0, rSp.at h⟩
theorem fk_copy {F : Nat → Prop} {w W : World} {q : Nat} {v : Value} {T : Sps} {A : Wd} (h : (FmX q v T).In F w) (hT : FmOk T A) {i : Nat} (hi : i < T.length) {k : Int} (hk : okN k) (hx : A k = none) (hW : Below w.heap.size w W) {g : Nat} (hg : v.ownBlock = some g) :
    Calls Try.prog 21 #[.agg #[.int .i64 (T.getD i zT).1.n, (T.getD i zT).1.vp, (T.getD i zT).1.vw], .int .i64 k] W (FkP F w q g i v (T.getD i zT).1 k (A.set k (some (T.getD i zT).2))) := by
  obtain ⟨s1, s2⟩ := fm_see h hi
  have hs : (T.getD i zT).2.ok := by
    have e := lk_at T hT.nod i hi
    rw [hT.eq] at e
    exact (hT.ok _ _ e).2
  have c0 : w.cell? ⟨q, 0, none⟩ = some v := by rw [(FmX.box h).cell]; rfl
  refine (copy_any (s1.below hW) (s2.below hW) k).mono fun e w1 hp => ?_
  obtain ⟨gp, cp, gw, cw, rfl, hb⟩ := hp
  have hB := below_call' hW hb.frame
  have k1 := ((Bec.refl h).below hW).new hb
  obtain ⟨v', w4, hpu⟩ := fm_push k1 hT hk hs hx
  obtain ⟨ao, n, c, rfl⟩ := hpu.form
  obtain ⟨g', c', hv, hlt, hat⟩ := fm_at h hi
  have hgg : g' = g := by
    rw [hv] at hg
    simpa [Value.ownBlock] using hg
  subst hgg
  have hlq := (FmX.box h).lt
  have h1 : HdC w1 q g' i v (T.getD i zT).1 := hdc_of ((hB.cell hlq).trans c0) (hat.same (hB.block _ hlt))
  refine ⟨gp, cp, gw, cw, ao, n, c, w4, rfl, h1, fun o => ?_, hpu.run, hdc_of hpu.cell (hpu.old g' hg i hi), hpu.frz, hpu.bec⟩
  have hB2 := below_call' hB (new_below w1 o)
  exact hdc_of ((hB2.cell hlq).trans c0) (hat.same (hB2.block _ hlt))
set_option maxRecDepth 100000 in
set_option maxHeartbeats 8000000 in
theorem rfork_any {F : Nat → Prop} {w : World} {q : Nat} {A A' : Wd} {n k code : Int} (h : (FmT q A).In F w) (hd : ForkD A n k code A') : Calls Try.prog 27 #[.pointer (some ⟨q, 0, none⟩), .int .i64 n, .int .i64 k] w (FmP F w q A' code) := by
  have HR : Hid (Bec F w (FmT q A) w) := Bec.refl h
  obtain ⟨⟨v, T⟩, hT, h⟩ := h
  simp only at h hT HR
  have hyes := fun {i : Nat} {m : Int} (hi : i < T.length) (hn : (T.getD i zT).1.n = m) => rfind_yes (FmX.box h) (FmX.row h) hT.few hT.nod hi hn
  have hno := fun {m : Int} (hm : A m = none) => rfind_no (FmX.box h) (FmX.row h) hT.few (by rw [hT.eq]; exact hm)
  have hab : okN k → ¬ k < 1 ∧ ¬ 255 < k := fun h => ⟨by have := h.1; omega, by have := h.2; omega⟩
  rcases hd with ⟨h1, rfl, rfl⟩ | ⟨h1, h2, rfl, rfl⟩ | ⟨h1, h2, h3, rfl, rfl⟩ | ⟨s, h1, h2, h3, rfl, rfl⟩
  · clear h hT hyes hno hab
    by_cases h0 : k < 1
    · go_enter Try.func27, Try.ntmps27
      go_wp2
      go_ret
      exact ⟨rfl, HR.out⟩
    · have h3 : 255 < k := by unfold okN at h1; omega
      go_enter Try.func27, Try.ntmps27
      go_wp2
      go_ret
      exact ⟨rfl, HR.out⟩
  · obtain ⟨ha, hb⟩ := hab h1
    have hf := hno h2
    clear h hT hyes hno hab h1 h2
    go_enter Try.func27, Try.ntmps27
    go_wp2_with fail
    refine hf.mono ?_
    rintro e w1 ⟨rfl, hw⟩
    obtain rfl := hw.symm
    clear hw
    go_wp2
    go_ret
    exact ⟨rfl, HR.out⟩
  · obtain ⟨ha, hb⟩ := hab h1
    obtain ⟨s, hs⟩ := Option.ne_none_iff_exists'.1 h2
    obtain ⟨i, hi, hin, -⟩ := lk_mem (T := T) (by rw [hT.eq]; exact hs)
    obtain ⟨s', hs'⟩ := Option.ne_none_iff_exists'.1 h3
    obtain ⟨j, hj, hjn, -⟩ := lk_mem (T := T) (by rw [hT.eq]; exact hs')
    have hf := hyes hi hin
    have hf2 := hyes hj hjn
    have hp1 : ¬ (i : Int) < 0 := by omega
    have hp2 : (0 : Int) ≤ (j : Int) := by omega
    clear h hT hyes hno hab h1 h2 h3 hs hi hin hs' hj hjn
    go_enter Try.func27, Try.ntmps27
    go_wp2_with fail
    refine hf.mono ?_
    rintro e w1 ⟨rfl, hw⟩
    obtain rfl := hw.symm
    clear hw
    go_wp2_with fail
    refine hf2.mono ?_
    rintro e w1 ⟨rfl, hw⟩
    obtain rfl := hw.symm
    clear hw
    go_wp2
    go_ret
    exact ⟨rfl, HR.out⟩
  · obtain ⟨ha, hb⟩ := hab h1
    obtain ⟨i, hi, hin, his⟩ := lk_mem (T := T) (by rw [hT.eq]; exact h2)
    have hf := hyes hi hin
    have hf2 := hno h3
    have hp1 : ¬ (i : Int) < 0 := by omega
    have hp2 : (0 : Int) ≤ (i : Int) := by omega
    have hp3 : (i : Int) < (T.length : Int) := by omega
    obtain ⟨g, c, hv, hlt, hat⟩ := fm_at h hi
    subst hv
    have hck : ∀ W, Below w.heap.size w W → Calls Try.prog 21 #[.agg #[.int .i64 (T.getD i zT).1.n, (T.getD i zT).1.vp, (T.getD i zT).1.vw], .int .i64 k] W (FkP F w q g i (.slice (some ⟨g, 0, none⟩) T.length c) (T.getD i zT).1 k (A.set k (some s))) := fun W hW => by
      have := fk_copy h hT hi h1 h3 hW (g := g) rfl
      rwa [his] at this
    have c0 : w.cell? ⟨q, 0, none⟩ = some (.slice (some ⟨g, 0, none⟩) T.length c) := by rw [(FmX.box h).cell]; rfl
    have hH : HdC w q g i (.slice (some ⟨g, 0, none⟩) T.length c) (T.getD i zT).1 := hdc_of c0 hat
    generalize (T.getD i zT).1 = x at *
    obtain ⟨xn, gp0, cp0, gw0, cw0⟩ := x
    unfold HdC SpV.vp SpV.vw at hH
    unfold FkP HdC SpV.vp SpV.vw at hck
    simp only at hH hck
    clear h hT hyes hno hab h1 h2 h3 hi hin his hlt hat HR c0
    go_enter Try.func27, Try.ntmps27
    go_wp2_with fail
    refine hf.mono ?_
    rintro e w1 ⟨rfl, hw⟩
    obtain rfl := hw.symm
    clear hw
    go_wp2_with fail
    refine hf2.mono ?_
    rintro e w1 ⟨rfl, hw⟩
    obtain rfl := hw.symm
    clear hw hf hf2
    go_wp2_with fail
    refine wp_region_X (fun w' => w'.cell? ⟨q, 0, none⟩ = some (.slice (some ⟨g, 0, none⟩) T.length c) ∧ w'.cell? ⟨g, i * 3, none⟩ = some (.int .i64 xn) ∧ w'.cell? ⟨g, i * 3 + 1, none⟩ = some (.slice (some ⟨gp0, 0, none⟩) 4096 cp0) ∧ w'.cell? ⟨g, i * 3 + 2, none⟩ = some (.slice (some ⟨gw0, 0, none⟩) 4096 cw0)) [18] (by kernel_rfl) ?_
    have hHeld : w.drew.cell? ⟨q, 0, none⟩ = some (.slice (some ⟨g, 0, none⟩) T.length c) ∧ w.drew.cell? ⟨g, i * 3, none⟩ = some (.int .i64 xn) ∧ w.drew.cell? ⟨g, i * 3 + 1, none⟩ = some (.slice (some ⟨gp0, 0, none⟩) 4096 cp0) ∧ w.drew.cell? ⟨g, i * 3 + 2, none⟩ = some (.slice (some ⟨gw0, 0, none⟩) 4096 cw0) := hH
    refine wpAnyX_take (i := 0) (v := ?v0) rfl (by kernel_rfl) (by kernel_rfl) (by kernel_rfl) (by kernel_rfl) (by kernel_rfl) (fun _ _ _ h => h) (Or.inl ⟨by rfl, ?hy0⟩) hHeld ?rest0
    case hy0 => intro w hSw; (try dsimp only at hSw); go_simp; try with_reducible rfl
    case rest0 =>
    simp only [Act.put, List.setIfInBounds_toArray, List.set_cons_zero, List.set_cons_succ, List.getElem_toArray, List.getElem_cons_zero]
    refine wpAnyX_take (i := 1) (v := ?v1) rfl (by kernel_rfl) (by kernel_rfl) (by kernel_rfl) (by kernel_rfl) (by kernel_rfl) (fun _ _ _ h => h) (Or.inl ⟨by rfl, ?hy1⟩) hHeld ?rest1
    case hy1 => intro w hSw; (try dsimp only at hSw); go_simp; try with_reducible rfl
    case rest1 =>
    simp only [Act.put, List.setIfInBounds_toArray, List.set_cons_zero, List.set_cons_succ, List.getElem_toArray, List.getElem_cons_zero, List.getElem_cons_succ]
    refine wpAnyX_take (i := 2) (v := ?v2) rfl (by kernel_rfl) (by kernel_rfl) (by kernel_rfl) (by kernel_rfl) (by kernel_rfl) (fun _ _ _ h => h) (Or.inl ⟨by rfl, ?hy2⟩) hHeld ?rest2
    case hy2 => intro w hSw; (try dsimp only at hSw); go_simp; try with_reducible rfl
    case rest2 =>
    simp only [Act.put, List.setIfInBounds_toArray, List.set_cons_zero, List.set_cons_succ, List.getElem_toArray, List.getElem_cons_zero, List.getElem_cons_succ]
    refine wpAnyX_take (i := 3) (v := ?v3) rfl (by kernel_rfl) (by kernel_rfl) (by kernel_rfl) (by kernel_rfl) (by kernel_rfl) (fun _ _ _ h => h) (Or.inl ⟨by rfl, ?hy3⟩) hHeld ?rest3
    case hy3 => intro w hSw; (try dsimp only at hSw); go_simp; try with_reducible rfl
    case rest3 =>
    simp only [Act.put, List.setIfInBounds_toArray, List.set_cons_zero, List.set_cons_succ, List.getElem_toArray, List.getElem_cons_zero, List.getElem_cons_succ]
    refine wpAnyX_take (i := 4) (v := ?v4) rfl (by kernel_rfl) (by kernel_rfl) (by kernel_rfl) (by kernel_rfl) (by kernel_rfl) (fun _ _ _ h => h) (Or.inl ⟨by rfl, ?hy4⟩) hHeld ?rest4
    case hy4 => intro w hSw; (try dsimp only at hSw); go_simp; try with_reducible rfl
    case rest4 =>
    simp only [Act.put, List.setIfInBounds_toArray, List.set_cons_zero, List.set_cons_succ, List.getElem_toArray, List.getElem_cons_zero, List.getElem_cons_succ]
    refine wpAnyX_take (i := 5) (v := ?v5) rfl (by kernel_rfl) (by kernel_rfl) (by kernel_rfl) (by kernel_rfl) (by kernel_rfl) (fun _ _ _ h => h) (Or.inl ⟨by rfl, ?hy5⟩) hHeld ?rest5
    case hy5 => intro w hSw; (try dsimp only at hSw); go_simp; try with_reducible rfl
    case rest5 =>
    simp only [Act.put, List.setIfInBounds_toArray, List.set_cons_zero, List.set_cons_succ, List.getElem_toArray, List.getElem_cons_zero, List.getElem_cons_succ]
    refine wpAnyX_take (i := 6) (v := ?v6) rfl (by kernel_rfl) (by kernel_rfl) (by kernel_rfl) (by kernel_rfl) (by kernel_rfl) (fun _ _ _ h => h) (Or.inl ⟨by rfl, ?hy6⟩) hHeld ?rest6
    case hy6 => intro w hSw; (try dsimp only at hSw); go_simp; try with_reducible rfl
    case rest6 =>
    simp only [Act.put, List.setIfInBounds_toArray, List.set_cons_zero, List.set_cons_succ, List.getElem_toArray, List.getElem_cons_zero, List.getElem_cons_succ]
    refine wpAnyX_take (i := 7) (v := ?v7) rfl (by kernel_rfl) (by kernel_rfl) (by kernel_rfl) (by kernel_rfl) (by kernel_rfl) (fun _ _ _ h => h) (Or.inl ⟨by rfl, ?hy7⟩) hHeld ?rest7
    case hy7 => intro w hSw; (try dsimp only at hSw); go_simp; try with_reducible rfl
    case rest7 =>
    simp only [Act.put, List.setIfInBounds_toArray, List.set_cons_zero, List.set_cons_succ, List.getElem_toArray, List.getElem_cons_zero, List.getElem_cons_succ]
    refine wpAnyX_take (i := 8) (v := ?v8) rfl (by kernel_rfl) (by kernel_rfl) (by kernel_rfl) (by kernel_rfl) (by kernel_rfl) (fun _ _ _ h => h) (Or.inl ⟨by rfl, ?hy8⟩) hHeld ?rest8
    case hy8 => intro w hSw; (try dsimp only at hSw); go_simp; try with_reducible rfl
    case rest8 =>
    simp only [Act.put, List.setIfInBounds_toArray, List.set_cons_zero, List.set_cons_succ, List.getElem_toArray, List.getElem_cons_zero, List.getElem_cons_succ]
    refine wpAnyX_take (i := 9) (v := ?v9) rfl (by kernel_rfl) (by kernel_rfl) (by kernel_rfl) (by kernel_rfl) (by kernel_rfl) (fun _ _ _ h => h) (Or.inl ⟨by rfl, ?hy9⟩) hHeld ?rest9
    case hy9 => intro w hSw; (try dsimp only at hSw); go_simp; try with_reducible rfl
    case rest9 =>
    simp only [Act.put, List.setIfInBounds_toArray, List.set_cons_zero, List.set_cons_succ, List.getElem_toArray, List.getElem_cons_zero, List.getElem_cons_succ]
    refine wpAnyX_take (i := 10) (v := ?v10) rfl (by kernel_rfl) (by kernel_rfl) (by kernel_rfl) (by kernel_rfl) (by kernel_rfl) (fun _ _ _ h => h) (Or.inl ⟨by rfl, ?hy10⟩) hHeld ?rest10
    case hy10 => intro w hSw; (try dsimp only at hSw); go_simp; try with_reducible rfl
    case rest10 =>
    simp only [Act.put, List.setIfInBounds_toArray, List.set_cons_zero, List.set_cons_succ, List.getElem_toArray, List.getElem_cons_zero, List.getElem_cons_succ]
    refine wpAnyX_take (i := 11) (v := ?v11) rfl (by kernel_rfl) (by kernel_rfl) (by kernel_rfl) (by kernel_rfl) (by kernel_rfl) (fun _ _ _ h => h) (Or.inl ⟨by rfl, ?hy11⟩) hHeld ?rest11
    case hy11 => intro w hSw; (try dsimp only at hSw); go_simp; try with_reducible rfl
    case rest11 =>
    simp only [Act.put, List.setIfInBounds_toArray, List.set_cons_zero, List.set_cons_succ, List.getElem_toArray, List.getElem_cons_zero, List.getElem_cons_succ]
    refine wpAnyX_take (i := 12) (v := ?v12) rfl (by kernel_rfl) (by kernel_rfl) (by kernel_rfl) (by kernel_rfl) (by kernel_rfl) (fun _ _ _ h => h) (Or.inl ⟨by rfl, ?hy12⟩) hHeld ?rest12
    case hy12 => intro w hSw; (try dsimp only at hSw); go_simp; try with_reducible rfl
    case rest12 =>
    simp only [Act.put, List.setIfInBounds_toArray, List.set_cons_zero, List.set_cons_succ, List.getElem_toArray, List.getElem_cons_zero, List.getElem_cons_succ]
    refine wpAnyX_one (i := 13) (by kernel_rfl) rfl (fun K hK => ?_)
    go_simp
    refine (hck _ (Below.refl _ _).drew).mono ?_
    rintro e w1 ⟨gp, cp, gw, cw, ao, n1, c1, w4, rfl, HC1, HC2, hrun, HC4, hfz, HB4⟩
    refine hK.out _ _ HC1 ?_
    clear hK K hHeld
    refine wpAnyX_one (i := 14) (by kernel_rfl) rfl (fun K hK => ?_)
    go_simp
    refine hK.out _ _ (HC2 _) ?_
    clear hK K
    refine wpAnyX_one (i := 15) (by kernel_rfl) rfl (fun K hK => ?_)
    refine step_appR rfl (.tmp 27) (.tmp 37) rfl _ _ rfl rfl hrun ?_
    refine hK.out _ _ HC4 ?_
    clear hK K
    have hHeld := HC4
    refine wpAnyX_take (i := 16) (v := ?v16) rfl (by kernel_rfl) (by kernel_rfl) (by kernel_rfl) (by kernel_rfl) (by kernel_rfl) (fun _ _ _ h => h) (Or.inl ⟨by rfl, ?hy16⟩) hHeld ?rest16
    case hy16 => intro w hSw; (try dsimp only at hSw); go_simp; try with_reducible rfl
    case rest16 =>
    simp only [Act.put, List.setIfInBounds_toArray, List.set_cons_zero, List.set_cons_succ, List.getElem_toArray, List.getElem_cons_zero, List.getElem_cons_succ]
    refine wpAnyX_take (i := 17) (v := ?v17) rfl (by kernel_rfl) (by kernel_rfl) (by kernel_rfl) (by kernel_rfl) (by kernel_rfl) (fun _ _ _ h => h) (Or.inl ⟨by rfl, ?hy17⟩) hHeld ?rest17
    case hy17 => intro w hSw; (try dsimp only at hSw); go_simp; try with_reducible rfl
    case rest17 =>
    simp only [Act.put, List.setIfInBounds_toArray, List.set_cons_zero, List.set_cons_succ, List.getElem_toArray, List.getElem_cons_zero, List.getElem_cons_succ]
    refine wpAnyX_last (i := 18) (by kernel_rfl) rfl (by kernel_rfl) (fun K hK => ?_)
    have hq4 := HC4.1
    go_simp
    refine hK.out _ _ ?_
    clear hK K hHeld
    refine wpAnyX_done (by kernel_rfl) ?_ _
    go_wp2
    go_ret
    exact ⟨rfl, HB4.out⟩
end Go.Proofs.Ytoimmapdkapheaa
