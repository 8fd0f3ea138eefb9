/- The document's Copy. -/
import Derived.Test.YtoimmapdkapheaaFRMk
namespace Go.Proofs.Ytoimmapdkapheaa
set_option maxRecDepth 4000
open Go.RowKit

/-- 'append(empty, l...)': a new row. -/
theorem step_appN {P : Program} {α : Type} {R : Rec α} {s : TypeId} (k : Kin P R s) {ops : Array Oper} {o : Oper} {a : Act} {w : World} {K : Act → World → Prop} {Q : Exit → Act → World → Prop} {E : Prop} (hg : o.guard = none) (x y : Operand) (ho : o.op = .call { callee := .builtin .append, args := #[x, y], argTypes := #[s, s] })
    (l : List α) {b : Nat} (hv : a.eval x = .slice (some ⟨b, 0, none⟩) 0 0) (ao : Option Addr) (n c : Nat) (hu : a.eval y = .slice ao n c) (hn : l.length = n) (hp : 0 < n) (hm : n ≤ maxLen) (hb : n * R.bytes ≤ 140737488355328) (hL : Laid w b R.t #[]) (hs : Seen R w ao c l)
    (hK : ∀ c' w', Row R w.heap.size w' (.slice (some ⟨w.heap.size, 0, none⟩) n c') l → Below w.heap.size w w' → K (a.put o.dst (.slice (some ⟨w.heap.size, 0, none⟩) n c')) w') : if Region.wanted o (yielded ops a.tmps) = true then Oper.wp P o a w K Q else E := by
  subst hn
  obtain ⟨i, z, hi, hz0, hz1, hz2, hzs⟩ := k.inf
  have he : Row R 0 w (.slice (some ⟨b, 0, none⟩) 0 0) [] := Row.of_cells (l' := []) (cur := #[]) (Nat.zero_le _) hL (Nat.zero_le _) (Nat.zero_le _) (by simp) (fun k hk => absurd hk (Nat.not_lt_zero _))
  obtain ⟨v', w', hr, h1, h2, h3, -⟩ := run_app' k w o.type 0 _ [] l he ao c hs (by simpa using hm) (by simpa using hb) (Nat.zero_le _)
  rw [List.nil_append] at h1
  cases ao with
  | none =>
    have := (hs.1 rfl).1
    subst this
    exact absurd hp (by simp)
  | some ad =>
    have hr2 := run_append_grow (P := P) w s o.type R.t i z k.und hi hz0 ⟨b, 0, none⟩ 0 0 [] (by simp) (by simp) ad l.length c (R.all l) (by rw [hz1]; exact R.all_len l) (hs.news ad rfl) (by omega) (by unfold maxLen at hm; omega) (by rw [hz2]; exact growslice_fits (by omega) (by simpa using hb))
    have e := hr.symm.trans hr2
    cases e
    simp only [Nat.zero_add] at hr h1
    refine step_appR hg x y ho _ _ hv hu hr (hK _ _ ?_ ?_)
    · obtain ⟨_, _, _, cur, d1, d2, d3, d4, d5⟩ := h1.cur
      exact Row.of_cells (Nat.le_refl _) d1 d2 d3 d4 d5
    · exact ((Below.refl w.heap.size w).drew.alloc (Nat.le_refl _) _)
theorem Bec.aside {w W0 W1 W2 : World} {X : Th} {r : Nat} (hb : Below w.heap.size w W0) (h : Bec (fun _ => False) W0 X W1) (hk : Keeps W1 W2 (fun c => c = r)) (h1 : w.heap.size ≤ r) (h2 : r < W0.heap.size) : Bec (fun _ => False) w X W2 := by
  obtain ⟨F', a1, a2, a3⟩ := h
  have hz := hb.size
  refine ⟨F', fun c hc => Or.inr ?_, X.keeps a2 hk fun c hc e => ?_, ((Keeps.of_below hb (fun c => c = r)).trans (a3.mono fun _ _ e => e.elim) fun _ _ e => e).trans hk (fun _ _ e => e) |>.mono fun c hc e => ?_⟩
  · have := (a1 c hc).resolve_left fun e => e
    omega
  · have := (a1 c hc).resolve_left fun e => e
    omega
  · omega
theorem keeps_3 (w : World) (r : Nat) (a b c : Value) : Keeps w (((w.setCell ⟨r, 0, none⟩ a).setCell ⟨r, 1, none⟩ b).setCell ⟨r, 2, none⟩ c) (fun x => x = r) :=
  ((Keeps.set w r 0 a).trans (Keeps.set _ r 1 b) fun _ _ h => h).trans (Keeps.set _ r 2 c) fun _ _ h => h
/-- What Copy tells: a space of its own. -/
def CopyP (w : World) (k : Int) (s : Sp) (e : Ending) (w' : World) : Prop :=
  ∃ gp cp gw cw, e = .returned (.agg #[.int .i64 k, .slice (some ⟨gp, 0, none⟩) 4096 cp, .slice (some ⟨gw, 0, none⟩) 4096 cw]) ∧ Bec (fun _ => False) w (spT (⟨k, gp, cp, gw, cw⟩, s)) w'
set_option maxRecDepth 100000 in
set_option maxHeartbeats 16000000 in
theorem copy_any {w : World} {x : SpV} {s : Sp} (hp : Row rAPg 0 w x.vp (pagesA s.f)) (hq : Row rW8 0 w x.vw (wordsA s.wd)) (k : Int) :
    Calls Try.prog 21 #[.agg #[.int .i64 x.n, x.vp, x.vw], .int .i64 k] w (CopyP w k s) := by
  obtain ⟨n0, gp, cp, gw, cw⟩ := x
  unfold SpV.vp SpV.vw at *
  simp only at hp hq ⊢
  have hb0 : Below w.heap.size w ((w.alloc (.cells #[.int .i64 n0, .slice (some ⟨gp, 0, none⟩) 4096 cp, .slice (some ⟨gw, 0, none⟩) 4096 cw] 59)).alloc (.cells #[.int .i64 0, .slice none 0 0, .slice none 0 0] 59)) := ((Below.refl _ _).alloc (Nat.le_refl _) _).alloc (by simp) _
  have hA : Laid ((w.alloc (.cells #[.int .i64 n0, .slice (some ⟨gp, 0, none⟩) 4096 cp, .slice (some ⟨gw, 0, none⟩) 4096 cw] 59)).alloc (.cells #[.int .i64 0, .slice none 0 0, .slice none 0 0] 59)) w.heap.size 59 #[.int .i64 n0, .slice (some ⟨gp, 0, none⟩) 4096 cp, .slice (some ⟨gw, 0, none⟩) 4096 cw] := (Laid.new w _ _).below (new_below _ _)
  have hX0 : Laid ((w.alloc (.cells #[.int .i64 n0, .slice (some ⟨gp, 0, none⟩) 4096 cp, .slice (some ⟨gw, 0, none⟩) 4096 cw] 59)).alloc (.cells #[.int .i64 0, .slice none 0 0, .slice none 0 0] 59)) (w.heap.size + 1) 59 #[.int .i64 0, .slice none 0 0, .slice none 0 0] := by
    have := Laid.new (w.alloc (.cells #[.int .i64 n0, .slice (some ⟨gp, 0, none⟩) 4096 cp, .slice (some ⟨gw, 0, none⟩) 4096 cw] 59)) 59 #[.int .i64 0, .slice none 0 0, .slice none 0 0]
    simpa using this
  have hsz : w.heap.size + 1 < ((w.alloc (.cells #[.int .i64 n0, .slice (some ⟨gp, 0, none⟩) 4096 cp, .slice (some ⟨gw, 0, none⟩) 4096 cw] 59)).alloc (.cells #[.int .i64 0, .slice none 0 0, .slice none 0 0] 59)).heap.size := hX0.lt
  generalize hW : (w.alloc (.cells #[.int .i64 n0, .slice (some ⟨gp, 0, none⟩) 4096 cp, .slice (some ⟨gw, 0, none⟩) 4096 cw] 59)).alloc (.cells #[.int .i64 0, .slice none 0 0, .slice none 0 0] 59) = W at *
  have KEEP : Hid (∀ w', Below W.heap.size W w' → w'.cell? ⟨w.heap.size, 1, none⟩ = some (.slice (some ⟨gp, 0, none⟩) 4096 cp) ∧ w'.cell? ⟨w.heap.size, 2, none⟩ = some (.slice (some ⟨gw, 0, none⟩) 4096 cw)) := fun w' h => ⟨(h.cell hA.lt).trans (by rw [hA.cell]; rfl), (h.cell hA.lt).trans (by rw [hA.cell]; rfl)⟩
  have HX : Hid (Laid W (w.heap.size + 1) 59 #[.int .i64 0, .slice none 0 0, .slice none 0 0]) := hX0
  have HB0 : Hid (Below w.heap.size w W) := hb0
  have SP : Hid (∀ w', Below W.heap.size W w' → Seen rAPg w' (some ⟨gp, 0, none⟩) cp (pagesA s.f)) := fun w' h => (hp.below (below_call' hb0 h)).seen.2
  have SW : Hid (∀ w', Below W.heap.size W w' → Seen rW8 w' (some ⟨gw, 0, none⟩) cw (wordsA s.wd)) := fun w' h => (hq.below (below_call' hb0 h)).seen.2
  have nP : Hid ((pagesA s.f).length = 4096) := pages_len _
  have nW : Hid ((wordsA s.wd).length = 4096) := words_len _
  have hHeld : W.drew.cell? ⟨w.heap.size, 1, none⟩ = some (.slice (some ⟨gp, 0, none⟩) 4096 cp) ∧ W.drew.cell? ⟨w.heap.size, 2, none⟩ = some (.slice (some ⟨gw, 0, none⟩) 4096 cw) := KEEP.out _ (Below.refl _ _).drew
  have HBd : Hid (Below W.heap.size W W.drew) := (Below.refl _ _).drew
  clear hp hq hb0 hA hX0 hsz
  go_enter Try.func21, Try.ntmps21
  go_wp2_with fail
  refine wp_region_X (fun w' => w'.cell? ⟨w.heap.size, 1, none⟩ = some (.slice (some ⟨gp, 0, none⟩) 4096 cp) ∧ w'.cell? ⟨w.heap.size, 2, none⟩ = some (.slice (some ⟨gw, 0, none⟩) 4096 cw)) [10] (by kernel_rfl) ?_
  refine wpAnyX_take (i := 0) (v := ?v0) rfl (by kernel_rfl) (by kernel_rfl) (by kernel_rfl) (by kernel_rfl) (by kernel_rfl) (fun _ _ _ h => h) (Or.inl ⟨by rfl, ?hy0⟩) hHeld ?rest0
  case hy0 => intro w hSw; (try dsimp only at hSw); go_simp; try with_reducible rfl
  case rest0 =>
  simp only [Act.put, List.setIfInBounds_toArray, List.set_cons_zero, List.set_cons_succ, List.getElem_toArray, List.getElem_cons_zero]
  refine wpAnyX_take (i := 2) (v := ?v2) rfl (by kernel_rfl) (by kernel_rfl) (by kernel_rfl) (by kernel_rfl) (by kernel_rfl) (fun _ _ _ h => h) (Or.inl ⟨by rfl, ?hy2⟩) hHeld ?rest2
  case hy2 => intro w hSw; (try dsimp only at hSw); go_simp; try with_reducible rfl
  case rest2 =>
  simp only [Act.put, List.setIfInBounds_toArray, List.set_cons_zero, List.set_cons_succ, List.getElem_toArray, List.getElem_cons_zero, List.getElem_cons_succ]
  refine wpAnyX_take (i := 3) (v := ?v3) rfl (by kernel_rfl) (by kernel_rfl) (by kernel_rfl) (by kernel_rfl) (by kernel_rfl) (fun _ _ _ h => h) (Or.inl ⟨by rfl, ?hy3⟩) hHeld ?rest3
  case hy3 => intro w hSw; (try dsimp only at hSw); go_simp; try with_reducible rfl
  case rest3 =>
  simp only [Act.put, List.setIfInBounds_toArray, List.set_cons_zero, List.set_cons_succ, List.getElem_toArray, List.getElem_cons_zero, List.getElem_cons_succ]
  refine wpAnyX_take (i := 6) (v := ?v6) rfl (by kernel_rfl) (by kernel_rfl) (by kernel_rfl) (by kernel_rfl) (by kernel_rfl) (fun _ _ _ h => h) (Or.inl ⟨by rfl, ?hy6⟩) hHeld ?rest6
  case hy6 => intro w hSw; (try dsimp only at hSw); go_simp; try with_reducible rfl
  case rest6 =>
  simp only [Act.put, List.setIfInBounds_toArray, List.set_cons_zero, List.set_cons_succ, List.getElem_toArray, List.getElem_cons_zero, List.getElem_cons_succ]
  refine wpAnyX_take (i := 7) (v := ?v7) rfl (by kernel_rfl) (by kernel_rfl) (by kernel_rfl) (by kernel_rfl) (by kernel_rfl) (fun _ _ _ h => h) (Or.inl ⟨by rfl, ?hy7⟩) hHeld ?rest7
  case hy7 => intro w hSw; (try dsimp only at hSw); go_simp; try with_reducible rfl
  case rest7 =>
  simp only [Act.put, List.setIfInBounds_toArray, List.set_cons_zero, List.set_cons_succ, List.getElem_toArray, List.getElem_cons_zero, List.getElem_cons_succ]
  clear hHeld
  refine wpAnyX_two (i := 1) (j := 5) (by kernel_rfl) rfl rfl (fun K hK => ?_) (fun K hK => ?_)
  · go_simp
    have HB1 : Hid (Below W.heap.size W (W.drew.alloc (.cells #[] 72))) := HBd.out.alloc HBd.out.size _
    have he1 : Laid (W.drew.alloc (.cells #[] 72)) (W.heap.size) 72 #[] := by
      have := Laid.new W.drew 72 #[]
      simpa using this
    have HE1 : Hid (Laid (W.drew.alloc (.cells #[] 72)) (W.heap.size) 72 #[]) := he1
    clear he1
    refine hK.out _ _ (KEEP.out _ HB1.out) ?_
    clear hK K
    refine wpAnyX_two (i := 4) (j := 5) (by kernel_rfl) rfl rfl (fun K hK => ?_) (fun K hK => ?_)
    · refine step_appN APg.kin rfl (.tmp 6) (.tmp 8) rfl (pagesA s.f) rfl _ _ _ rfl nP.out (by decide) (by unfold maxLen; omega) (by decide) HE1.out (SP.out _ HB1.out) ?_
      intro c14 W14 hr14 hb14
      have HB14 : Hid (Below W.heap.size W W14) := below_call' HB1.out hb14
      have HF14 : Hid (Bec (fun _ => False) W (Th.row rAPg (.slice (some ⟨W.heap.size + 1, 0, none⟩) 4096 c14) (pagesA s.f)) W14) := Bec.base HB1.out (row_new (by simpa using hr14) hb14)
      clear hr14 hb14
      refine hK.out _ _ (KEEP.out _ HB14.out) ?_
      clear hK K
      refine wpAnyX_one (i := 5) (by kernel_rfl) rfl (fun K hK => ?_)
      go_simp
      have HB145 : Hid (Below W.heap.size W (W14.alloc (.cells #[] 77))) := HB14.out.alloc HB14.out.size _
      have he145 : Laid (W14.alloc (.cells #[] 77)) (W14.heap.size) 77 #[] := by
        have := Laid.new W14 77 #[]
        simpa using this
      have HE145 : Hid (Laid (W14.alloc (.cells #[] 77)) (W14.heap.size) 77 #[]) := he145
      clear he145
      have HF145 : Hid (Bec (fun _ => False) W (Th.row rAPg (.slice (some ⟨W.heap.size + 1, 0, none⟩) 4096 c14) (pagesA s.f)) (W14.alloc (.cells #[] 77))) := HF14.out.below (new_below _ _)
      refine hK.out _ _ (KEEP.out _ HB145.out) ?_
      clear hK K
      refine wpAnyX_one (i := 8) (by kernel_rfl) rfl (fun K hK => ?_)
      refine step_appN rW8.kin rfl (.tmp 10) (.tmp 12) rfl (wordsA s.wd) rfl _ _ _ rfl nW.out (by decide) (by unfold maxLen; omega) (by decide) HE145.out (SW.out _ HB145.out) ?_
      intro c1458 W1458 hr1458 hb1458
      have HB1458 : Hid (Below W.heap.size W W1458) := below_call' HB145.out hb1458
      have HF1458 : Hid (Bec (fun _ => False) W ((Th.row rW8 (.slice (some ⟨W14.heap.size + 1, 0, none⟩) 4096 c1458) (wordsA s.wd)).and (Th.row rAPg (.slice (some ⟨W.heap.size + 1, 0, none⟩) 4096 c14) (pagesA s.f))) W1458) := (HF145.out.below (Below.refl _ _)).new (row_new (by simpa using hr1458) hb1458)
      clear hr1458 hb1458
      refine hK.out _ _ (KEEP.out _ HB1458.out) ?_
      clear hK K
      have HZ : Hid (Bec (fun _ => False) W (spT (⟨k, W.heap.size + 1, c14, W14.heap.size + 1, c1458⟩, s)) W1458) := HF1458.out.imp (and_comm _ _)
      have hHeld := KEEP.out _ HB1458.out
      refine wpAnyX_take (i := 9) (v := ?v91458) rfl (by kernel_rfl) (by kernel_rfl) (by kernel_rfl) (by kernel_rfl) (by kernel_rfl) (fun _ _ _ h => h) (Or.inl ⟨by rfl, ?hy91458⟩) hHeld ?rest91458
      case hy91458 => intro w hSw; (try dsimp only at hSw); go_simp; try with_reducible rfl
      case rest91458 =>
      simp only [Act.put, List.setIfInBounds_toArray, List.set_cons_zero, List.set_cons_succ, List.getElem_toArray, List.getElem_cons_zero, List.getElem_cons_succ]
      have hX := HX.out.below HB1458.out
      have y0 : W1458.cell? ⟨w.heap.size + 1, 0, none⟩ = some (.int .i64 0) := by rw [hX.cell]; rfl
      have y1 : W1458.cell? ⟨w.heap.size + 1, 1, none⟩ = some (.slice none 0 0) := by rw [hX.cell]; rfl
      have y2 : W1458.cell? ⟨w.heap.size + 1, 2, none⟩ = some (.slice none 0 0) := by rw [hX.cell]; rfl
      have yf : ∀ o, W1458.frozen? ⟨w.heap.size + 1, o, none⟩ = false := fun o => frozen_of_row W1458 _ o _ _ hX
      clear hX
      refine wpAnyX_last (i := 10) (by kernel_rfl) rfl (by kernel_rfl) (fun K hK => ?_)
      go_simp
      refine hK.out _ _ ?_
      clear hK K hHeld
      refine wpAnyX_done (by kernel_rfl) ?_ _
      go_wp2
      refine bodyPost_ret (v := .agg #[.int .i64 k, .slice (some ⟨W.heap.size + 1, 0, none⟩) 4096 c14, .slice (some ⟨W14.heap.size + 1, 0, none⟩) 4096 c1458]) ?_ rfl ⟨_, _, _, _, rfl, Bec.aside HB0.out HZ.out (keeps_3 _ _ _ _ _) (by omega) HX.out.lt⟩
      simp [results, Try.results21, go_sem, y0, y1, y2]
    · go_simp
      have HB15 : Hid (Below W.heap.size W ((W.drew.alloc (.cells #[] 72)).alloc (.cells #[] 77))) := HB1.out.alloc HB1.out.size _
      have he15 : Laid ((W.drew.alloc (.cells #[] 72)).alloc (.cells #[] 77)) (W.heap.size + 1) 77 #[] := by
        have := Laid.new (W.drew.alloc (.cells #[] 72)) 77 #[]
        simpa using this
      have HE15 : Hid (Laid ((W.drew.alloc (.cells #[] 72)).alloc (.cells #[] 77)) (W.heap.size + 1) 77 #[]) := he15
      clear he15
      have HC15 : Hid (Laid ((W.drew.alloc (.cells #[] 72)).alloc (.cells #[] 77)) (W.heap.size) 72 #[]) := HE1.out.below (new_below _ _)
      refine hK.out _ _ (KEEP.out _ HB15.out) ?_
      clear hK K
      refine wpAnyX_one (i := 4) (by kernel_rfl) rfl (fun K hK => ?_)
      refine step_appN APg.kin rfl (.tmp 6) (.tmp 8) rfl (pagesA s.f) rfl _ _ _ rfl nP.out (by decide) (by unfold maxLen; omega) (by decide) HC15.out (SP.out _ HB15.out) ?_
      intro c154 W154 hr154 hb154
      have HB154 : Hid (Below W.heap.size W W154) := below_call' HB15.out hb154
      have HC154 : Hid (Laid W154 (W.heap.size + 1) 77 #[]) := HE15.out.below hb154
      have HF154 : Hid (Bec (fun _ => False) W (Th.row rAPg (.slice (some ⟨W.heap.size + 1 + 1, 0, none⟩) 4096 c154) (pagesA s.f)) W154) := Bec.base HB15.out (row_new (by simpa using hr154) hb154)
      clear hr154 hb154
      refine hK.out _ _ (KEEP.out _ HB154.out) ?_
      clear hK K
      refine wpAnyX_one (i := 8) (by kernel_rfl) rfl (fun K hK => ?_)
      refine step_appN rW8.kin rfl (.tmp 10) (.tmp 12) rfl (wordsA s.wd) rfl _ _ _ rfl nW.out (by decide) (by unfold maxLen; omega) (by decide) HC154.out (SW.out _ HB154.out) ?_
      intro c1548 W1548 hr1548 hb1548
      have HB1548 : Hid (Below W.heap.size W W1548) := below_call' HB154.out hb1548
      have HF1548 : Hid (Bec (fun _ => False) W ((Th.row rW8 (.slice (some ⟨W154.heap.size, 0, none⟩) 4096 c1548) (wordsA s.wd)).and (Th.row rAPg (.slice (some ⟨W.heap.size + 1 + 1, 0, none⟩) 4096 c154) (pagesA s.f))) W1548) := (HF154.out.below (Below.refl _ _)).new (row_new (by simpa using hr1548) hb1548)
      clear hr1548 hb1548
      refine hK.out _ _ (KEEP.out _ HB1548.out) ?_
      clear hK K
      have HZ : Hid (Bec (fun _ => False) W (spT (⟨k, W.heap.size + 1 + 1, c154, W154.heap.size, c1548⟩, s)) W1548) := HF1548.out.imp (and_comm _ _)
      have hHeld := KEEP.out _ HB1548.out
      refine wpAnyX_take (i := 9) (v := ?v91548) rfl (by kernel_rfl) (by kernel_rfl) (by kernel_rfl) (by kernel_rfl) (by kernel_rfl) (fun _ _ _ h => h) (Or.inl ⟨by rfl, ?hy91548⟩) hHeld ?rest91548
      case hy91548 => intro w hSw; (try dsimp only at hSw); go_simp; try with_reducible rfl
      case rest91548 =>
      simp only [Act.put, List.setIfInBounds_toArray, List.set_cons_zero, List.set_cons_succ, List.getElem_toArray, List.getElem_cons_zero, List.getElem_cons_succ]
      have hX := HX.out.below HB1548.out
      have y0 : W1548.cell? ⟨w.heap.size + 1, 0, none⟩ = some (.int .i64 0) := by rw [hX.cell]; rfl
      have y1 : W1548.cell? ⟨w.heap.size + 1, 1, none⟩ = some (.slice none 0 0) := by rw [hX.cell]; rfl
      have y2 : W1548.cell? ⟨w.heap.size + 1, 2, none⟩ = some (.slice none 0 0) := by rw [hX.cell]; rfl
      have yf : ∀ o, W1548.frozen? ⟨w.heap.size + 1, o, none⟩ = false := fun o => frozen_of_row W1548 _ o _ _ hX
      clear hX
      refine wpAnyX_last (i := 10) (by kernel_rfl) rfl (by kernel_rfl) (fun K hK => ?_)
      go_simp
      refine hK.out _ _ ?_
      clear hK K hHeld
      refine wpAnyX_done (by kernel_rfl) ?_ _
      go_wp2
      refine bodyPost_ret (v := .agg #[.int .i64 k, .slice (some ⟨W.heap.size + 1 + 1, 0, none⟩) 4096 c154, .slice (some ⟨W154.heap.size, 0, none⟩) 4096 c1548]) ?_ rfl ⟨_, _, _, _, rfl, Bec.aside HB0.out HZ.out (keeps_3 _ _ _ _ _) (by omega) HX.out.lt⟩
      simp [results, Try.results21, go_sem, y0, y1, y2]
  · go_simp
    have HB5 : Hid (Below W.heap.size W (W.drew.alloc (.cells #[] 77))) := HBd.out.alloc HBd.out.size _
    have he5 : Laid (W.drew.alloc (.cells #[] 77)) (W.heap.size) 77 #[] := by
      have := Laid.new W.drew 77 #[]
      simpa using this
    have HE5 : Hid (Laid (W.drew.alloc (.cells #[] 77)) (W.heap.size) 77 #[]) := he5
    clear he5
    refine hK.out _ _ (KEEP.out _ HB5.out) ?_
    clear hK K
    refine wpAnyX_one (i := 1) (by kernel_rfl) rfl (fun K hK => ?_)
    go_simp
    have HB51 : Hid (Below W.heap.size W ((W.drew.alloc (.cells #[] 77)).alloc (.cells #[] 72))) := HB5.out.alloc HB5.out.size _
    have he51 : Laid ((W.drew.alloc (.cells #[] 77)).alloc (.cells #[] 72)) (W.heap.size + 1) 72 #[] := by
      have := Laid.new (W.drew.alloc (.cells #[] 77)) 72 #[]
      simpa using this
    have HE51 : Hid (Laid ((W.drew.alloc (.cells #[] 77)).alloc (.cells #[] 72)) (W.heap.size + 1) 72 #[]) := he51
    clear he51
    have HC51 : Hid (Laid ((W.drew.alloc (.cells #[] 77)).alloc (.cells #[] 72)) (W.heap.size) 77 #[]) := HE5.out.below (new_below _ _)
    refine hK.out _ _ (KEEP.out _ HB51.out) ?_
    clear hK K
    refine wpAnyX_one (i := 4) (by kernel_rfl) rfl (fun K hK => ?_)
    refine step_appN APg.kin rfl (.tmp 6) (.tmp 8) rfl (pagesA s.f) rfl _ _ _ rfl nP.out (by decide) (by unfold maxLen; omega) (by decide) HE51.out (SP.out _ HB51.out) ?_
    intro c514 W514 hr514 hb514
    have HB514 : Hid (Below W.heap.size W W514) := below_call' HB51.out hb514
    have HC514 : Hid (Laid W514 (W.heap.size) 77 #[]) := HC51.out.below hb514
    have HF514 : Hid (Bec (fun _ => False) W (Th.row rAPg (.slice (some ⟨W.heap.size + 1 + 1, 0, none⟩) 4096 c514) (pagesA s.f)) W514) := Bec.base HB51.out (row_new (by simpa using hr514) hb514)
    clear hr514 hb514
    refine hK.out _ _ (KEEP.out _ HB514.out) ?_
    clear hK K
    refine wpAnyX_one (i := 8) (by kernel_rfl) rfl (fun K hK => ?_)
    refine step_appN rW8.kin rfl (.tmp 10) (.tmp 12) rfl (wordsA s.wd) rfl _ _ _ rfl nW.out (by decide) (by unfold maxLen; omega) (by decide) HC514.out (SW.out _ HB514.out) ?_
    intro c5148 W5148 hr5148 hb5148
    have HB5148 : Hid (Below W.heap.size W W5148) := below_call' HB514.out hb5148
    have HF5148 : Hid (Bec (fun _ => False) W ((Th.row rW8 (.slice (some ⟨W514.heap.size, 0, none⟩) 4096 c5148) (wordsA s.wd)).and (Th.row rAPg (.slice (some ⟨W.heap.size + 1 + 1, 0, none⟩) 4096 c514) (pagesA s.f))) W5148) := (HF514.out.below (Below.refl _ _)).new (row_new (by simpa using hr5148) hb5148)
    clear hr5148 hb5148
    refine hK.out _ _ (KEEP.out _ HB5148.out) ?_
    clear hK K
    have HZ : Hid (Bec (fun _ => False) W (spT (⟨k, W.heap.size + 1 + 1, c514, W514.heap.size, c5148⟩, s)) W5148) := HF5148.out.imp (and_comm _ _)
    have hHeld := KEEP.out _ HB5148.out
    refine wpAnyX_take (i := 9) (v := ?v95148) rfl (by kernel_rfl) (by kernel_rfl) (by kernel_rfl) (by kernel_rfl) (by kernel_rfl) (fun _ _ _ h => h) (Or.inl ⟨by rfl, ?hy95148⟩) hHeld ?rest95148
    case hy95148 => intro w hSw; (try dsimp only at hSw); go_simp; try with_reducible rfl
    case rest95148 =>
    simp only [Act.put, List.setIfInBounds_toArray, List.set_cons_zero, List.set_cons_succ, List.getElem_toArray, List.getElem_cons_zero, List.getElem_cons_succ]
    have hX := HX.out.below HB5148.out
    have y0 : W5148.cell? ⟨w.heap.size + 1, 0, none⟩ = some (.int .i64 0) := by rw [hX.cell]; rfl
    have y1 : W5148.cell? ⟨w.heap.size + 1, 1, none⟩ = some (.slice none 0 0) := by rw [hX.cell]; rfl
    have y2 : W5148.cell? ⟨w.heap.size + 1, 2, none⟩ = some (.slice none 0 0) := by rw [hX.cell]; rfl
    have yf : ∀ o, W5148.frozen? ⟨w.heap.size + 1, o, none⟩ = false := fun o => frozen_of_row W5148 _ o _ _ hX
    clear hX
    refine wpAnyX_last (i := 10) (by kernel_rfl) rfl (by kernel_rfl) (fun K hK => ?_)
    go_simp
    refine hK.out _ _ ?_
    clear hK K hHeld
    refine wpAnyX_done (by kernel_rfl) ?_ _
    go_wp2
    refine bodyPost_ret (v := .agg #[.int .i64 k, .slice (some ⟨W.heap.size + 1 + 1, 0, none⟩) 4096 c514, .slice (some ⟨W514.heap.size, 0, none⟩) 4096 c5148]) ?_ rfl ⟨_, _, _, _, rfl, Bec.aside HB0.out HZ.out (keeps_3 _ _ _ _ _) (by omega) HX.out.lt⟩
    simp [results, Try.results21, go_sem, y0, y1, y2]
end Go.Proofs.Ytoimmapdkapheaa
