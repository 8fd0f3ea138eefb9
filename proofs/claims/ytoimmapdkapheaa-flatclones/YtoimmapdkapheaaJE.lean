/- Own texts, joined: FCp, FRFk, FREnd, ATo, AChr, AUp, ARgt. -/
import Derived.Test.YtoimmapdkapheaaJD
import Derived.Test.YtoimmapdkapheaaJC
/- The document's Copy. -/
namespace Go.Proofs.Ytoimmapdkapheaa
set_option maxRecDepth 4000
open Go.RowKit

/-- 'append(empty, l...)': a new row. -/
theorem step_appN {P : Program} {α : Type} {R : Rec α} {s : TypeId} (k : Kin P R s) {ops : Array Oper} {o : Oper} {a : Act} {w : World} {K : Act → World → Prop} {Q : Exit → Act → World → Prop} {E : Prop} (hg : o.guard = none) (x y : Operand) (ho : o.op = .call { callee := .builtin .append, args := #[x, y], argTypes := #[s, s] })
    (l : List α) {b : Nat} (hv : a.eval x = .slice (some ⟨b, 0, none⟩) 0 0) (ao : Option Addr) (n c : Nat) (hu : a.eval y = .slice ao n c) (hn : l.length = n) (hp : 0 < n) (hm : n ≤ maxLen) (hb : n * R.bytes ≤ 140737488355328) (hL : Laid w b R.t #[]) (hs : Seen R w ao c l)
    (hK : ∀ c' w', Row R w.heap.size w' (.slice (some ⟨w.heap.size, 0, none⟩) n c') l → Below w.heap.size w w' → K (a.put o.dst (.slice (some ⟨w.heap.size, 0, none⟩) n c')) w') : if Region.wanted o (yielded ops a.tmps) = true then Oper.wp P o a w K Q else E := by
  subst hn
  obtain ⟨i, z, hi, hz0, hz1, hz2, hzs⟩ := k.inf
  have he : Row R 0 w (.slice (some ⟨b, 0, none⟩) 0 0) [] := Row.of_cells (l' := []) (cur := #[]) (Nat.zero_le _) hL (Nat.zero_le _) (Nat.zero_le _) (by simp) (fun k hk => absurd hk (Nat.not_lt_zero _))
  obtain ⟨v', w', hr, h1, h2, h3, -⟩ := run_app' k w o.type 0 _ [] l he ao c hs (by simpa using hm) (by simpa using hb) (Nat.zero_le _)
  rw [List.nil_append] at h1
  cases ao with
  | none =>
    have := (hs.1 rfl).1
    subst this
    exact absurd hp (by simp)
  | some ad =>
    have hr2 := run_append_grow (P := P) w s o.type R.t i z k.und hi hz0 ⟨b, 0, none⟩ 0 0 [] (by simp) (by simp) ad l.length c (R.all l) (by rw [hz1]; exact R.all_len l) (hs.news ad rfl) (by omega) (by unfold maxLen at hm; omega) (by rw [hz2]; exact growslice_fits (by omega) (by simpa using hb))
    have e := hr.symm.trans hr2
    cases e
    simp only [Nat.zero_add] at hr h1
    refine step_appR hg x y ho _ _ hv hu hr (hK _ _ ?_ ?_)
    · obtain ⟨_, _, _, cur, d1, d2, d3, d4, d5⟩ := h1.cur
      exact Row.of_cells (Nat.le_refl _) d1 d2 d3 d4 d5
    · exact ((Below.refl w.heap.size w).drew.alloc (Nat.le_refl _) _)
theorem Bec.aside {w W0 W1 W2 : World} {X : Th} {r : Nat} (hb : Below w.heap.size w W0) (h : Bec (fun _ => False) W0 X W1) (hk : Keeps W1 W2 (fun c => c = r)) (h1 : w.heap.size ≤ r) (h2 : r < W0.heap.size) : Bec (fun _ => False) w X W2 := by
  obtain ⟨F', a1, a2, a3⟩ := h
  have hz := hb.size
  refine ⟨F', fun c hc => Or.inr ?_, X.keeps a2 hk fun c hc e => ?_, ((Keeps.of_below hb (fun c => c = r)).trans (a3.mono fun _ _ e => e.elim) fun _ _ e => e).trans hk (fun _ _ e => e) |>.mono fun c hc e => ?_⟩
  · have := (a1 c hc).resolve_left fun e => e
    omega
  · have := (a1 c hc).resolve_left fun e => e
    omega
  · omega
theorem keeps_3 (w : World) (r : Nat) (a b c : Value) : Keeps w (((w.setCell ⟨r, 0, none⟩ a).setCell ⟨r, 1, none⟩ b).setCell ⟨r, 2, none⟩ c) (fun x => x = r) :=
  ((Keeps.set w r 0 a).trans (Keeps.set _ r 1 b) fun _ _ h => h).trans (Keeps.set _ r 2 c) fun _ _ h => h
/-- What Copy tells: a space of its own. -/
def CopyP (w : World) (k : Int) (s : Sp) (e : Ending) (w' : World) : Prop :=
  ∃ gp cp gw cw, e = .returned (.agg #[.int .i64 k, .slice (some ⟨gp, 0, none⟩) 4096 cp, .slice (some ⟨gw, 0, none⟩) 4096 cw]) ∧ Bec (fun _ => False) w (spT (⟨k, gp, cp, gw, cw⟩, s)) w'
set_option maxRecDepth 100000 in
set_option maxHeartbeats 16000000 in
theorem copy_any {w : World} {x : SpV} {s : Sp} (hp : Row rAPg 0 w x.vp (pagesA s.f)) (hq : Row rW8 0 w x.vw (wordsA s.wd)) (k : Int) :
    Calls Try.prog 21 #[.agg #[.int .i64 x.n, x.vp, x.vw], .int .i64 k] w (CopyP w k s) := by
  obtain ⟨n0, gp, cp, gw, cw⟩ := x
  unfold SpV.vp SpV.vw at *
  simp only at hp hq ⊢
  have hb0 : Below w.heap.size w ((w.alloc (.cells #[.int .i64 n0, .slice (some ⟨gp, 0, none⟩) 4096 cp, .slice (some ⟨gw, 0, none⟩) 4096 cw] 59)).alloc (.cells #[.int .i64 0, .slice none 0 0, .slice none 0 0] 59)) := ((Below.refl _ _).alloc (Nat.le_refl _) _).alloc (by simp) _
  have hA : Laid ((w.alloc (.cells #[.int .i64 n0, .slice (some ⟨gp, 0, none⟩) 4096 cp, .slice (some ⟨gw, 0, none⟩) 4096 cw] 59)).alloc (.cells #[.int .i64 0, .slice none 0 0, .slice none 0 0] 59)) w.heap.size 59 #[.int .i64 n0, .slice (some ⟨gp, 0, none⟩) 4096 cp, .slice (some ⟨gw, 0, none⟩) 4096 cw] := (Laid.new w _ _).below (new_below _ _)
  have hX0 : Laid ((w.alloc (.cells #[.int .i64 n0, .slice (some ⟨gp, 0, none⟩) 4096 cp, .slice (some ⟨gw, 0, none⟩) 4096 cw] 59)).alloc (.cells #[.int .i64 0, .slice none 0 0, .slice none 0 0] 59)) (w.heap.size + 1) 59 #[.int .i64 0, .slice none 0 0, .slice none 0 0] := by
    have := Laid.new (w.alloc (.cells #[.int .i64 n0, .slice (some ⟨gp, 0, none⟩) 4096 cp, .slice (some ⟨gw, 0, none⟩) 4096 cw] 59)) 59 #[.int .i64 0, .slice none 0 0, .slice none 0 0]
    simpa using this
  have hsz : w.heap.size + 1 < ((w.alloc (.cells #[.int .i64 n0, .slice (some ⟨gp, 0, none⟩) 4096 cp, .slice (some ⟨gw, 0, none⟩) 4096 cw] 59)).alloc (.cells #[.int .i64 0, .slice none 0 0, .slice none 0 0] 59)).heap.size := hX0.lt
  generalize hW : (w.alloc (.cells #[.int .i64 n0, .slice (some ⟨gp, 0, none⟩) 4096 cp, .slice (some ⟨gw, 0, none⟩) 4096 cw] 59)).alloc (.cells #[.int .i64 0, .slice none 0 0, .slice none 0 0] 59) = W at *
  have KEEP : Hid (∀ w', Below W.heap.size W w' → w'.cell? ⟨w.heap.size, 1, none⟩ = some (.slice (some ⟨gp, 0, none⟩) 4096 cp) ∧ w'.cell? ⟨w.heap.size, 2, none⟩ = some (.slice (some ⟨gw, 0, none⟩) 4096 cw)) := fun w' h => ⟨(h.cell hA.lt).trans (by rw [hA.cell]; rfl), (h.cell hA.lt).trans (by rw [hA.cell]; rfl)⟩
  have HX : Hid (Laid W (w.heap.size + 1) 59 #[.int .i64 0, .slice none 0 0, .slice none 0 0]) := hX0
  have HB0 : Hid (Below w.heap.size w W) := hb0
  have SP : Hid (∀ w', Below W.heap.size W w' → Seen rAPg w' (some ⟨gp, 0, none⟩) cp (pagesA s.f)) := fun w' h => (hp.below (below_call' hb0 h)).seen.2
  have SW : Hid (∀ w', Below W.heap.size W w' → Seen rW8 w' (some ⟨gw, 0, none⟩) cw (wordsA s.wd)) := fun w' h => (hq.below (below_call' hb0 h)).seen.2
  have nP : Hid ((pagesA s.f).length = 4096) := pages_len _
  have nW : Hid ((wordsA s.wd).length = 4096) := words_len _
  have hHeld : W.drew.cell? ⟨w.heap.size, 1, none⟩ = some (.slice (some ⟨gp, 0, none⟩) 4096 cp) ∧ W.drew.cell? ⟨w.heap.size, 2, none⟩ = some (.slice (some ⟨gw, 0, none⟩) 4096 cw) := KEEP.out _ (Below.refl _ _).drew
  have HBd : Hid (Below W.heap.size W W.drew) := (Below.refl _ _).drew
  clear hp hq hb0 hA hX0 hsz
  go_enter Try.func21, Try.ntmps21
  go_wp2_with fail
  refine wp_region_X (fun w' => w'.cell? ⟨w.heap.size, 1, none⟩ = some (.slice (some ⟨gp, 0, none⟩) 4096 cp) ∧ w'.cell? ⟨w.heap.size, 2, none⟩ = some (.slice (some ⟨gw, 0, none⟩) 4096 cw)) [10] (by kernel_rfl) ?_
  refine wpAnyX_take (i := 0) (v := ?v0) rfl (by kernel_rfl) (by kernel_rfl) (by kernel_rfl) (by kernel_rfl) (by kernel_rfl) (fun _ _ _ h => h) (Or.inl ⟨by rfl, ?hy0⟩) hHeld ?rest0
  case hy0 => intro w hSw; (try dsimp only at hSw); go_simp; try with_reducible rfl
  case rest0 =>
  simp only [Act.put, List.setIfInBounds_toArray, List.set_cons_zero, List.set_cons_succ, List.getElem_toArray, List.getElem_cons_zero]
  refine wpAnyX_take (i := 2) (v := ?v2) rfl (by kernel_rfl) (by kernel_rfl) (by kernel_rfl) (by kernel_rfl) (by kernel_rfl) (fun _ _ _ h => h) (Or.inl ⟨by rfl, ?hy2⟩) hHeld ?rest2
  case hy2 => intro w hSw; (try dsimp only at hSw); go_simp; try with_reducible rfl
  case rest2 =>
  simp only [Act.put, List.setIfInBounds_toArray, List.set_cons_zero, List.set_cons_succ, List.getElem_toArray, List.getElem_cons_zero, List.getElem_cons_succ]
  refine wpAnyX_take (i := 3) (v := ?v3) rfl (by kernel_rfl) (by kernel_rfl) (by kernel_rfl) (by kernel_rfl) (by kernel_rfl) (fun _ _ _ h => h) (Or.inl ⟨by rfl, ?hy3⟩) hHeld ?rest3
  case hy3 => intro w hSw; (try dsimp only at hSw); go_simp; try with_reducible rfl
  case rest3 =>
  simp only [Act.put, List.setIfInBounds_toArray, List.set_cons_zero, List.set_cons_succ, List.getElem_toArray, List.getElem_cons_zero, List.getElem_cons_succ]
  refine wpAnyX_take (i := 6) (v := ?v6) rfl (by kernel_rfl) (by kernel_rfl) (by kernel_rfl) (by kernel_rfl) (by kernel_rfl) (fun _ _ _ h => h) (Or.inl ⟨by rfl, ?hy6⟩) hHeld ?rest6
  case hy6 => intro w hSw; (try dsimp only at hSw); go_simp; try with_reducible rfl
  case rest6 =>
  simp only [Act.put, List.setIfInBounds_toArray, List.set_cons_zero, List.set_cons_succ, List.getElem_toArray, List.getElem_cons_zero, List.getElem_cons_succ]
  refine wpAnyX_take (i := 7) (v := ?v7) rfl (by kernel_rfl) (by kernel_rfl) (by kernel_rfl) (by kernel_rfl) (by kernel_rfl) (fun _ _ _ h => h) (Or.inl ⟨by rfl, ?hy7⟩) hHeld ?rest7
  case hy7 => intro w hSw; (try dsimp only at hSw); go_simp; try with_reducible rfl
  case rest7 =>
  simp only [Act.put, List.setIfInBounds_toArray, List.set_cons_zero, List.set_cons_succ, List.getElem_toArray, List.getElem_cons_zero, List.getElem_cons_succ]
  clear hHeld
  refine wpAnyX_two (i := 1) (j := 5) (by kernel_rfl) rfl rfl (fun K hK => ?_) (fun K hK => ?_)
  · go_simp
    have HB1 : Hid (Below W.heap.size W (W.drew.alloc (.cells #[] 72))) := HBd.out.alloc HBd.out.size _
    have he1 : Laid (W.drew.alloc (.cells #[] 72)) (W.heap.size) 72 #[] := by
      have := Laid.new W.drew 72 #[]
      simpa using this
    have HE1 : Hid (Laid (W.drew.alloc (.cells #[] 72)) (W.heap.size) 72 #[]) := he1
    clear he1
    refine hK.out _ _ (KEEP.out _ HB1.out) ?_
    clear hK K
    refine wpAnyX_two (i := 4) (j := 5) (by kernel_rfl) rfl rfl (fun K hK => ?_) (fun K hK => ?_)
    · refine step_appN APg.kin rfl (.tmp 6) (.tmp 8) rfl (pagesA s.f) rfl _ _ _ rfl nP.out (by decide) (by unfold maxLen; omega) (by decide) HE1.out (SP.out _ HB1.out) ?_
      intro c14 W14 hr14 hb14
      have HB14 : Hid (Below W.heap.size W W14) := below_call' HB1.out hb14
      have HF14 : Hid (Bec (fun _ => False) W (Th.row rAPg (.slice (some ⟨W.heap.size + 1, 0, none⟩) 4096 c14) (pagesA s.f)) W14) := Bec.base HB1.out (row_new (by simpa using hr14) hb14)
      clear hr14 hb14
      refine hK.out _ _ (KEEP.out _ HB14.out) ?_
      clear hK K
      refine wpAnyX_one (i := 5) (by kernel_rfl) rfl (fun K hK => ?_)
      go_simp
      have HB145 : Hid (Below W.heap.size W (W14.alloc (.cells #[] 77))) := HB14.out.alloc HB14.out.size _
      have he145 : Laid (W14.alloc (.cells #[] 77)) (W14.heap.size) 77 #[] := by
        have := Laid.new W14 77 #[]
        simpa using this
      have HE145 : Hid (Laid (W14.alloc (.cells #[] 77)) (W14.heap.size) 77 #[]) := he145
      clear he145
      have HF145 : Hid (Bec (fun _ => False) W (Th.row rAPg (.slice (some ⟨W.heap.size + 1, 0, none⟩) 4096 c14) (pagesA s.f)) (W14.alloc (.cells #[] 77))) := HF14.out.below (new_below _ _)
      refine hK.out _ _ (KEEP.out _ HB145.out) ?_
      clear hK K
      refine wpAnyX_one (i := 8) (by kernel_rfl) rfl (fun K hK => ?_)
      refine step_appN rW8.kin rfl (.tmp 10) (.tmp 12) rfl (wordsA s.wd) rfl _ _ _ rfl nW.out (by decide) (by unfold maxLen; omega) (by decide) HE145.out (SW.out _ HB145.out) ?_
      intro c1458 W1458 hr1458 hb1458
      have HB1458 : Hid (Below W.heap.size W W1458) := below_call' HB145.out hb1458
      have HF1458 : Hid (Bec (fun _ => False) W ((Th.row rW8 (.slice (some ⟨W14.heap.size + 1, 0, none⟩) 4096 c1458) (wordsA s.wd)).and (Th.row rAPg (.slice (some ⟨W.heap.size + 1, 0, none⟩) 4096 c14) (pagesA s.f))) W1458) := (HF145.out.below (Below.refl _ _)).new (row_new (by simpa using hr1458) hb1458)
      clear hr1458 hb1458
      refine hK.out _ _ (KEEP.out _ HB1458.out) ?_
      clear hK K
      have HZ : Hid (Bec (fun _ => False) W (spT (⟨k, W.heap.size + 1, c14, W14.heap.size + 1, c1458⟩, s)) W1458) := HF1458.out.imp (and_comm _ _)
      have hHeld := KEEP.out _ HB1458.out
      refine wpAnyX_take (i := 9) (v := ?v91458) rfl (by kernel_rfl) (by kernel_rfl) (by kernel_rfl) (by kernel_rfl) (by kernel_rfl) (fun _ _ _ h => h) (Or.inl ⟨by rfl, ?hy91458⟩) hHeld ?rest91458
      case hy91458 => intro w hSw; (try dsimp only at hSw); go_simp; try with_reducible rfl
      case rest91458 =>
      simp only [Act.put, List.setIfInBounds_toArray, List.set_cons_zero, List.set_cons_succ, List.getElem_toArray, List.getElem_cons_zero, List.getElem_cons_succ]
      have hX := HX.out.below HB1458.out
      have y0 : W1458.cell? ⟨w.heap.size + 1, 0, none⟩ = some (.int .i64 0) := by rw [hX.cell]; rfl
      have y1 : W1458.cell? ⟨w.heap.size + 1, 1, none⟩ = some (.slice none 0 0) := by rw [hX.cell]; rfl
      have y2 : W1458.cell? ⟨w.heap.size + 1, 2, none⟩ = some (.slice none 0 0) := by rw [hX.cell]; rfl
      have yf : ∀ o, W1458.frozen? ⟨w.heap.size + 1, o, none⟩ = false := fun o => frozen_of_row W1458 _ o _ _ hX
      clear hX
      refine wpAnyX_last (i := 10) (by kernel_rfl) rfl (by kernel_rfl) (fun K hK => ?_)
      go_simp
      refine hK.out _ _ ?_
      clear hK K hHeld
      refine wpAnyX_done (by kernel_rfl) ?_ _
      go_wp2
      refine bodyPost_ret (v := .agg #[.int .i64 k, .slice (some ⟨W.heap.size + 1, 0, none⟩) 4096 c14, .slice (some ⟨W14.heap.size + 1, 0, none⟩) 4096 c1458]) ?_ rfl ⟨_, _, _, _, rfl, Bec.aside HB0.out HZ.out (keeps_3 _ _ _ _ _) (by omega) HX.out.lt⟩
      simp [results, Try.results21, go_sem, y0, y1, y2]
    · go_simp
      have HB15 : Hid (Below W.heap.size W ((W.drew.alloc (.cells #[] 72)).alloc (.cells #[] 77))) := HB1.out.alloc HB1.out.size _
      have he15 : Laid ((W.drew.alloc (.cells #[] 72)).alloc (.cells #[] 77)) (W.heap.size + 1) 77 #[] := by
        have := Laid.new (W.drew.alloc (.cells #[] 72)) 77 #[]
        simpa using this
      have HE15 : Hid (Laid ((W.drew.alloc (.cells #[] 72)).alloc (.cells #[] 77)) (W.heap.size + 1) 77 #[]) := he15
      clear he15
      have HC15 : Hid (Laid ((W.drew.alloc (.cells #[] 72)).alloc (.cells #[] 77)) (W.heap.size) 72 #[]) := HE1.out.below (new_below _ _)
      refine hK.out _ _ (KEEP.out _ HB15.out) ?_
      clear hK K
      refine wpAnyX_one (i := 4) (by kernel_rfl) rfl (fun K hK => ?_)
      refine step_appN APg.kin rfl (.tmp 6) (.tmp 8) rfl (pagesA s.f) rfl _ _ _ rfl nP.out (by decide) (by unfold maxLen; omega) (by decide) HC15.out (SP.out _ HB15.out) ?_
      intro c154 W154 hr154 hb154
      have HB154 : Hid (Below W.heap.size W W154) := below_call' HB15.out hb154
      have HC154 : Hid (Laid W154 (W.heap.size + 1) 77 #[]) := HE15.out.below hb154
      have HF154 : Hid (Bec (fun _ => False) W (Th.row rAPg (.slice (some ⟨W.heap.size + 1 + 1, 0, none⟩) 4096 c154) (pagesA s.f)) W154) := Bec.base HB15.out (row_new (by simpa using hr154) hb154)
      clear hr154 hb154
      refine hK.out _ _ (KEEP.out _ HB154.out) ?_
      clear hK K
      refine wpAnyX_one (i := 8) (by kernel_rfl) rfl (fun K hK => ?_)
      refine step_appN rW8.kin rfl (.tmp 10) (.tmp 12) rfl (wordsA s.wd) rfl _ _ _ rfl nW.out (by decide) (by unfold maxLen; omega) (by decide) HC154.out (SW.out _ HB154.out) ?_
      intro c1548 W1548 hr1548 hb1548
      have HB1548 : Hid (Below W.heap.size W W1548) := below_call' HB154.out hb1548
      have HF1548 : Hid (Bec (fun _ => False) W ((Th.row rW8 (.slice (some ⟨W154.heap.size, 0, none⟩) 4096 c1548) (wordsA s.wd)).and (Th.row rAPg (.slice (some ⟨W.heap.size + 1 + 1, 0, none⟩) 4096 c154) (pagesA s.f))) W1548) := (HF154.out.below (Below.refl _ _)).new (row_new (by simpa using hr1548) hb1548)
      clear hr1548 hb1548
      refine hK.out _ _ (KEEP.out _ HB1548.out) ?_
      clear hK K
      have HZ : Hid (Bec (fun _ => False) W (spT (⟨k, W.heap.size + 1 + 1, c154, W154.heap.size, c1548⟩, s)) W1548) := HF1548.out.imp (and_comm _ _)
      have hHeld := KEEP.out _ HB1548.out
      refine wpAnyX_take (i := 9) (v := ?v91548) rfl (by kernel_rfl) (by kernel_rfl) (by kernel_rfl) (by kernel_rfl) (by kernel_rfl) (fun _ _ _ h => h) (Or.inl ⟨by rfl, ?hy91548⟩) hHeld ?rest91548
      case hy91548 => intro w hSw; (try dsimp only at hSw); go_simp; try with_reducible rfl
      case rest91548 =>
      simp only [Act.put, List.setIfInBounds_toArray, List.set_cons_zero, List.set_cons_succ, List.getElem_toArray, List.getElem_cons_zero, List.getElem_cons_succ]
      have hX := HX.out.below HB1548.out
      have y0 : W1548.cell? ⟨w.heap.size + 1, 0, none⟩ = some (.int .i64 0) := by rw [hX.cell]; rfl
      have y1 : W1548.cell? ⟨w.heap.size + 1, 1, none⟩ = some (.slice none 0 0) := by rw [hX.cell]; rfl
      have y2 : W1548.cell? ⟨w.heap.size + 1, 2, none⟩ = some (.slice none 0 0) := by rw [hX.cell]; rfl
      have yf : ∀ o, W1548.frozen? ⟨w.heap.size + 1, o, none⟩ = false := fun o => frozen_of_row W1548 _ o _ _ hX
      clear hX
      refine wpAnyX_last (i := 10) (by kernel_rfl) rfl (by kernel_rfl) (fun K hK => ?_)
      go_simp
      refine hK.out _ _ ?_
      clear hK K hHeld
      refine wpAnyX_done (by kernel_rfl) ?_ _
      go_wp2
      refine bodyPost_ret (v := .agg #[.int .i64 k, .slice (some ⟨W.heap.size + 1 + 1, 0, none⟩) 4096 c154, .slice (some ⟨W154.heap.size, 0, none⟩) 4096 c1548]) ?_ rfl ⟨_, _, _, _, rfl, Bec.aside HB0.out HZ.out (keeps_3 _ _ _ _ _) (by omega) HX.out.lt⟩
      simp [results, Try.results21, go_sem, y0, y1, y2]
  · go_simp
    have HB5 : Hid (Below W.heap.size W (W.drew.alloc (.cells #[] 77))) := HBd.out.alloc HBd.out.size _
    have he5 : Laid (W.drew.alloc (.cells #[] 77)) (W.heap.size) 77 #[] := by
      have := Laid.new W.drew 77 #[]
      simpa using this
    have HE5 : Hid (Laid (W.drew.alloc (.cells #[] 77)) (W.heap.size) 77 #[]) := he5
    clear he5
    refine hK.out _ _ (KEEP.out _ HB5.out) ?_
    clear hK K
    refine wpAnyX_one (i := 1) (by kernel_rfl) rfl (fun K hK => ?_)
    go_simp
    have HB51 : Hid (Below W.heap.size W ((W.drew.alloc (.cells #[] 77)).alloc (.cells #[] 72))) := HB5.out.alloc HB5.out.size _
    have he51 : Laid ((W.drew.alloc (.cells #[] 77)).alloc (.cells #[] 72)) (W.heap.size + 1) 72 #[] := by
      have := Laid.new (W.drew.alloc (.cells #[] 77)) 72 #[]
      simpa using this
    have HE51 : Hid (Laid ((W.drew.alloc (.cells #[] 77)).alloc (.cells #[] 72)) (W.heap.size + 1) 72 #[]) := he51
    clear he51
    have HC51 : Hid (Laid ((W.drew.alloc (.cells #[] 77)).alloc (.cells #[] 72)) (W.heap.size) 77 #[]) := HE5.out.below (new_below _ _)
    refine hK.out _ _ (KEEP.out _ HB51.out) ?_
    clear hK K
    refine wpAnyX_one (i := 4) (by kernel_rfl) rfl (fun K hK => ?_)
    refine step_appN APg.kin rfl (.tmp 6) (.tmp 8) rfl (pagesA s.f) rfl _ _ _ rfl nP.out (by decide) (by unfold maxLen; omega) (by decide) HE51.out (SP.out _ HB51.out) ?_
    intro c514 W514 hr514 hb514
    have HB514 : Hid (Below W.heap.size W W514) := below_call' HB51.out hb514
    have HC514 : Hid (Laid W514 (W.heap.size) 77 #[]) := HC51.out.below hb514
    have HF514 : Hid (Bec (fun _ => False) W (Th.row rAPg (.slice (some ⟨W.heap.size + 1 + 1, 0, none⟩) 4096 c514) (pagesA s.f)) W514) := Bec.base HB51.out (row_new (by simpa using hr514) hb514)
    clear hr514 hb514
    refine hK.out _ _ (KEEP.out _ HB514.out) ?_
    clear hK K
    refine wpAnyX_one (i := 8) (by kernel_rfl) rfl (fun K hK => ?_)
    refine step_appN rW8.kin rfl (.tmp 10) (.tmp 12) rfl (wordsA s.wd) rfl _ _ _ rfl nW.out (by decide) (by unfold maxLen; omega) (by decide) HC514.out (SW.out _ HB514.out) ?_
    intro c5148 W5148 hr5148 hb5148
    have HB5148 : Hid (Below W.heap.size W W5148) := below_call' HB514.out hb5148
    have HF5148 : Hid (Bec (fun _ => False) W ((Th.row rW8 (.slice (some ⟨W514.heap.size, 0, none⟩) 4096 c5148) (wordsA s.wd)).and (Th.row rAPg (.slice (some ⟨W.heap.size + 1 + 1, 0, none⟩) 4096 c514) (pagesA s.f))) W5148) := (HF514.out.below (Below.refl _ _)).new (row_new (by simpa using hr5148) hb5148)
    clear hr5148 hb5148
    refine hK.out _ _ (KEEP.out _ HB5148.out) ?_
    clear hK K
    have HZ : Hid (Bec (fun _ => False) W (spT (⟨k, W.heap.size + 1 + 1, c514, W514.heap.size, c5148⟩, s)) W5148) := HF5148.out.imp (and_comm _ _)
    have hHeld := KEEP.out _ HB5148.out
    refine wpAnyX_take (i := 9) (v := ?v95148) rfl (by kernel_rfl) (by kernel_rfl) (by kernel_rfl) (by kernel_rfl) (by kernel_rfl) (fun _ _ _ h => h) (Or.inl ⟨by rfl, ?hy95148⟩) hHeld ?rest95148
    case hy95148 => intro w hSw; (try dsimp only at hSw); go_simp; try with_reducible rfl
    case rest95148 =>
    simp only [Act.put, List.setIfInBounds_toArray, List.set_cons_zero, List.set_cons_succ, List.getElem_toArray, List.getElem_cons_zero, List.getElem_cons_succ]
    have hX := HX.out.below HB5148.out
    have y0 : W5148.cell? ⟨w.heap.size + 1, 0, none⟩ = some (.int .i64 0) := by rw [hX.cell]; rfl
    have y1 : W5148.cell? ⟨w.heap.size + 1, 1, none⟩ = some (.slice none 0 0) := by rw [hX.cell]; rfl
    have y2 : W5148.cell? ⟨w.heap.size + 1, 2, none⟩ = some (.slice none 0 0) := by rw [hX.cell]; rfl
    have yf : ∀ o, W5148.frozen? ⟨w.heap.size + 1, o, none⟩ = false := fun o => frozen_of_row W5148 _ o _ _ hX
    clear hX
    refine wpAnyX_last (i := 10) (by kernel_rfl) rfl (by kernel_rfl) (fun K hK => ?_)
    go_simp
    refine hK.out _ _ ?_
    clear hK K hHeld
    refine wpAnyX_done (by kernel_rfl) ?_ _
    go_wp2
    refine bodyPost_ret (v := .agg #[.int .i64 k, .slice (some ⟨W.heap.size + 1 + 1, 0, none⟩) 4096 c514, .slice (some ⟨W514.heap.size, 0, none⟩) 4096 c5148]) ?_ rfl ⟨_, _, _, _, rfl, Bec.aside HB0.out HZ.out (keeps_3 _ _ _ _ _) (by omega) HX.out.lt⟩
    simp [results, Try.results21, go_sem, y0, y1, y2]
end Go.Proofs.Ytoimmapdkapheaa
/- The document's Fork. -/
namespace Go.Proofs.Ytoimmapdkapheaa
set_option maxRecDepth 4000
open Go.RowKit

theorem all_at : ∀ (T : Sps) (i : Nat), i < T.length → ∃ A B, T = A ++ T.getD i zT :: B ∧ A.length = i
  | [], i, h => by simp at h
  | x :: T, 0, _ => ⟨[], T, by simp, rfl⟩
  | x :: T, i + 1, h => by
    obtain ⟨A, B, e, el⟩ := all_at T i (by simpa using h)
    refine ⟨x :: A, B, ?_, by simp [el]⟩
    rw [show (x :: T).getD (i + 1) zT = T.getD i zT by simp, List.cons_append, ← e]
/-- One of the spaces in front. -/
theorem fm_pick (q : Nat) (v : Value) (A B : Sps) (x : SpV × Sp) (T : Sps) (hT : T = A ++ x :: B) :
    (FmX q v T).le ((spT x).and ((Th.box q 29 #[v]).and ((Th.row rSp v (heads T)).and (Th.all (spTs (A ++ B)))))) := fun {F w} h => by
  refine Th.le.trans (and_mono (Th.le.refl _) (Th.le.trans (and_mono (Th.le.refl _) ?_) (and_left _ _ _))) (and_left _ _ _) h
  rw [hT]
  simp only [spTs, List.map_append, List.map_cons]
  exact all_pick _ _ _
theorem fm_see {F : Nat → Prop} {w : World} {q : Nat} {v : Value} {T : Sps} (h : (FmX q v T).In F w) {i : Nat} (hi : i < T.length) : Row rAPg 0 w (T.getD i zT).1.vp (pagesA (T.getD i zT).2.f) ∧ Row rW8 0 w (T.getD i zT).1.vw (wordsA (T.getD i zT).2.wd) := by
  obtain ⟨A, B, e, _⟩ := all_at T i hi
  obtain ⟨_, _, _, _, ⟨_, _, _, _, h1, h2⟩, _⟩ := fm_pick q v A B _ T e h
  exact ⟨h1.2, h2.2⟩
/-- The cells of a space's head. -/
theorem fm_at {F : Nat → Prop} {w : World} {q : Nat} {v : Value} {T : Sps} (h : (FmX q v T).In F w) {i : Nat} (hi : i < T.length) : ∃ g c, v = .slice (some ⟨g, 0, none⟩) T.length c ∧ g < w.heap.size ∧ At rSp w g (i * 3) (T.getD i zT).1 := by
  have hrow := FmX.row h
  obtain ⟨ao, c, rfl⟩ := hrow.form
  obtain ⟨g, rfl, -, -, hlt, -, -, hat⟩ := hrow.at (show i < (heads T).length by rw [heads_len]; exact hi)
  rw [show (heads T).getD i rSp.zero = (T.getD i zT).1 from heads_get T hi] at hat
  rw [heads_len]
  exact ⟨g, c, rfl, hlt, hat⟩
/-- The cells that a region reads. -/
def HdC (w : World) (q g i : Nat) (v : Value) (x : SpV) : Prop := w.cell? ⟨q, 0, none⟩ = some v ∧ w.cell? ⟨g, i * 3, none⟩ = some (.int .i64 x.n) ∧ w.cell? ⟨g, i * 3 + 1, none⟩ = some x.vp ∧ w.cell? ⟨g, i * 3 + 2, none⟩ = some x.vw
/-- Behind Copy: what the append and the store will leave. -/
def FkP (F : Nat → Prop) (w : World) (q g i : Nat) (v : Value) (x : SpV) (k : Int) (A' : Wd) (e : Ending) (w1 : World) : Prop :=
  ∃ gp cp gw cw ao n c w4, e = .returned (.agg #[.int .i64 k, .slice (some ⟨gp, 0, none⟩) 4096 cp, .slice (some ⟨gw, 0, none⟩) 4096 cw]) ∧ HdC w1 q g i v x ∧ (∀ o, HdC (w1.alloc o) q g i v x) ∧
    (Builtin.append_ #[27, 27] 27 #[v, .slice (some ⟨w1.heap.size, 0, none⟩) 1 1]).run Try.prog (w1.alloc (.cells #[.int .i64 k, .slice (some ⟨gp, 0, none⟩) 4096 cp, .slice (some ⟨gw, 0, none⟩) 4096 cw] 59)) = .ok (.slice ao n c) w4 ∧
    HdC w4 q g i v x ∧ w4.frozen? ⟨q, 0, none⟩ = false ∧ Hid (Bec F w (FmT q A') (w4.setCell ⟨q, 0, none⟩ (.slice ao n c)))
theorem hdc_of {w : World} {q g i : Nat} {v : Value} {x : SpV} (h0 : w.cell? ⟨q, 0, none⟩ = some v) (h : At rSp w g (i * 3) x) : HdC w q g i v x := ⟨h0, rSp.at h⟩
theorem fk_copy {F : Nat → Prop} {w W : World} {q : Nat} {v : Value} {T : Sps} {A : Wd} (h : (FmX q v T).In F w) (hT : FmOk T A) {i : Nat} (hi : i < T.length) {k : Int} (hk : okN k) (hx : A k = none) (hW : Below w.heap.size w W) {g : Nat} (hg : v.ownBlock = some g) :
    Calls Try.prog 21 #[.agg #[.int .i64 (T.getD i zT).1.n, (T.getD i zT).1.vp, (T.getD i zT).1.vw], .int .i64 k] W (FkP F w q g i v (T.getD i zT).1 k (A.set k (some (T.getD i zT).2))) := by
  obtain ⟨s1, s2⟩ := fm_see h hi
  have hs : (T.getD i zT).2.ok := by
    have e := lk_at T hT.nod i hi
    rw [hT.eq] at e
    exact (hT.ok _ _ e).2
  have c0 : w.cell? ⟨q, 0, none⟩ = some v := by rw [(FmX.box h).cell]; rfl
  refine (copy_any (s1.below hW) (s2.below hW) k).mono fun e w1 hp => ?_
  obtain ⟨gp, cp, gw, cw, rfl, hb⟩ := hp
  have hB := below_call' hW hb.frame
  have k1 := ((Bec.refl h).below hW).new hb
  obtain ⟨v', w4, hpu⟩ := fm_push k1 hT hk hs hx
  obtain ⟨ao, n, c, rfl⟩ := hpu.form
  obtain ⟨g', c', hv, hlt, hat⟩ := fm_at h hi
  have hgg : g' = g := by
    rw [hv] at hg
    simpa [Value.ownBlock] using hg
  subst hgg
  have hlq := (FmX.box h).lt
  have h1 : HdC w1 q g' i v (T.getD i zT).1 := hdc_of ((hB.cell hlq).trans c0) (hat.same (hB.block _ hlt))
  refine ⟨gp, cp, gw, cw, ao, n, c, w4, rfl, h1, fun o => ?_, hpu.run, hdc_of hpu.cell (hpu.old g' hg i hi), hpu.frz, hpu.bec⟩
  have hB2 := below_call' hB (new_below w1 o)
  exact hdc_of ((hB2.cell hlq).trans c0) (hat.same (hB2.block _ hlt))
set_option maxRecDepth 100000 in
set_option maxHeartbeats 8000000 in
theorem rfork_any {F : Nat → Prop} {w : World} {q : Nat} {A A' : Wd} {n k code : Int} (h : (FmT q A).In F w) (hd : ForkD A n k code A') : Calls Try.prog 27 #[.pointer (some ⟨q, 0, none⟩), .int .i64 n, .int .i64 k] w (FmP F w q A' code) := by
  have HR : Hid (Bec F w (FmT q A) w) := Bec.refl h
  obtain ⟨⟨v, T⟩, hT, h⟩ := h
  simp only at h hT HR
  have hyes := fun {i : Nat} {m : Int} (hi : i < T.length) (hn : (T.getD i zT).1.n = m) => rfind_yes (FmX.box h) (FmX.row h) hT.few hT.nod hi hn
  have hno := fun {m : Int} (hm : A m = none) => rfind_no (FmX.box h) (FmX.row h) hT.few (by rw [hT.eq]; exact hm)
  have hab : okN k → ¬ k < 1 ∧ ¬ 255 < k := fun h => ⟨by have := h.1; omega, by have := h.2; omega⟩
  rcases hd with ⟨h1, rfl, rfl⟩ | ⟨h1, h2, rfl, rfl⟩ | ⟨h1, h2, h3, rfl, rfl⟩ | ⟨s, h1, h2, h3, rfl, rfl⟩
  · clear h hT hyes hno hab
    by_cases h0 : k < 1
    · go_enter Try.func27, Try.ntmps27
      go_wp2
      go_ret
      exact ⟨rfl, HR.out⟩
    · have h3 : 255 < k := by unfold okN at h1; omega
      go_enter Try.func27, Try.ntmps27
      go_wp2
      go_ret
      exact ⟨rfl, HR.out⟩
  · obtain ⟨ha, hb⟩ := hab h1
    have hf := hno h2
    clear h hT hyes hno hab h1 h2
    go_enter Try.func27, Try.ntmps27
    go_wp2_with fail
    refine hf.mono ?_
    rintro e w1 ⟨rfl, hw⟩
    obtain rfl := hw.symm
    clear hw
    go_wp2
    go_ret
    exact ⟨rfl, HR.out⟩
  · obtain ⟨ha, hb⟩ := hab h1
    obtain ⟨s, hs⟩ := Option.ne_none_iff_exists'.1 h2
    obtain ⟨i, hi, hin, -⟩ := lk_mem (T := T) (by rw [hT.eq]; exact hs)
    obtain ⟨s', hs'⟩ := Option.ne_none_iff_exists'.1 h3
    obtain ⟨j, hj, hjn, -⟩ := lk_mem (T := T) (by rw [hT.eq]; exact hs')
    have hf := hyes hi hin
    have hf2 := hyes hj hjn
    have hp1 : ¬ (i : Int) < 0 := by omega
    have hp2 : (0 : Int) ≤ (j : Int) := by omega
    clear h hT hyes hno hab h1 h2 h3 hs hi hin hs' hj hjn
    go_enter Try.func27, Try.ntmps27
    go_wp2_with fail
    refine hf.mono ?_
    rintro e w1 ⟨rfl, hw⟩
    obtain rfl := hw.symm
    clear hw
    go_wp2_with fail
    refine hf2.mono ?_
    rintro e w1 ⟨rfl, hw⟩
    obtain rfl := hw.symm
    clear hw
    go_wp2
    go_ret
    exact ⟨rfl, HR.out⟩
  · obtain ⟨ha, hb⟩ := hab h1
    obtain ⟨i, hi, hin, his⟩ := lk_mem (T := T) (by rw [hT.eq]; exact h2)
    have hf := hyes hi hin
    have hf2 := hno h3
    have hp1 : ¬ (i : Int) < 0 := by omega
    have hp2 : (0 : Int) ≤ (i : Int) := by omega
    have hp3 : (i : Int) < (T.length : Int) := by omega
    obtain ⟨g, c, hv, hlt, hat⟩ := fm_at h hi
    subst hv
    have hck : ∀ W, Below w.heap.size w W → Calls Try.prog 21 #[.agg #[.int .i64 (T.getD i zT).1.n, (T.getD i zT).1.vp, (T.getD i zT).1.vw], .int .i64 k] W (FkP F w q g i (.slice (some ⟨g, 0, none⟩) T.length c) (T.getD i zT).1 k (A.set k (some s))) := fun W hW => by
      have := fk_copy h hT hi h1 h3 hW (g := g) rfl
      rwa [his] at this
    have c0 : w.cell? ⟨q, 0, none⟩ = some (.slice (some ⟨g, 0, none⟩) T.length c) := by rw [(FmX.box h).cell]; rfl
    have hH : HdC w q g i (.slice (some ⟨g, 0, none⟩) T.length c) (T.getD i zT).1 := hdc_of c0 hat
    generalize (T.getD i zT).1 = x at *
    obtain ⟨xn, gp0, cp0, gw0, cw0⟩ := x
    unfold HdC SpV.vp SpV.vw at hH
    unfold FkP HdC SpV.vp SpV.vw at hck
    simp only at hH hck
    clear h hT hyes hno hab h1 h2 h3 hi hin his hlt hat HR c0
    go_enter Try.func27, Try.ntmps27
    go_wp2_with fail
    refine hf.mono ?_
    rintro e w1 ⟨rfl, hw⟩
    obtain rfl := hw.symm
    clear hw
    go_wp2_with fail
    refine hf2.mono ?_
    rintro e w1 ⟨rfl, hw⟩
    obtain rfl := hw.symm
    clear hw hf hf2
    go_wp2_with fail
    refine wp_region_X (fun w' => w'.cell? ⟨q, 0, none⟩ = some (.slice (some ⟨g, 0, none⟩) T.length c) ∧ w'.cell? ⟨g, i * 3, none⟩ = some (.int .i64 xn) ∧ w'.cell? ⟨g, i * 3 + 1, none⟩ = some (.slice (some ⟨gp0, 0, none⟩) 4096 cp0) ∧ w'.cell? ⟨g, i * 3 + 2, none⟩ = some (.slice (some ⟨gw0, 0, none⟩) 4096 cw0)) [18] (by kernel_rfl) ?_
    have hHeld : w.drew.cell? ⟨q, 0, none⟩ = some (.slice (some ⟨g, 0, none⟩) T.length c) ∧ w.drew.cell? ⟨g, i * 3, none⟩ = some (.int .i64 xn) ∧ w.drew.cell? ⟨g, i * 3 + 1, none⟩ = some (.slice (some ⟨gp0, 0, none⟩) 4096 cp0) ∧ w.drew.cell? ⟨g, i * 3 + 2, none⟩ = some (.slice (some ⟨gw0, 0, none⟩) 4096 cw0) := hH
    refine wpAnyX_take (i := 0) (v := ?v0) rfl (by kernel_rfl) (by kernel_rfl) (by kernel_rfl) (by kernel_rfl) (by kernel_rfl) (fun _ _ _ h => h) (Or.inl ⟨by rfl, ?hy0⟩) hHeld ?rest0
    case hy0 => intro w hSw; (try dsimp only at hSw); go_simp; try with_reducible rfl
    case rest0 =>
    simp only [Act.put, List.setIfInBounds_toArray, List.set_cons_zero, List.set_cons_succ, List.getElem_toArray, List.getElem_cons_zero]
    refine wpAnyX_take (i := 1) (v := ?v1) rfl (by kernel_rfl) (by kernel_rfl) (by kernel_rfl) (by kernel_rfl) (by kernel_rfl) (fun _ _ _ h => h) (Or.inl ⟨by rfl, ?hy1⟩) hHeld ?rest1
    case hy1 => intro w hSw; (try dsimp only at hSw); go_simp; try with_reducible rfl
    case rest1 =>
    simp only [Act.put, List.setIfInBounds_toArray, List.set_cons_zero, List.set_cons_succ, List.getElem_toArray, List.getElem_cons_zero, List.getElem_cons_succ]
    refine wpAnyX_take (i := 2) (v := ?v2) rfl (by kernel_rfl) (by kernel_rfl) (by kernel_rfl) (by kernel_rfl) (by kernel_rfl) (fun _ _ _ h => h) (Or.inl ⟨by rfl, ?hy2⟩) hHeld ?rest2
    case hy2 => intro w hSw; (try dsimp only at hSw); go_simp; try with_reducible rfl
    case rest2 =>
    simp only [Act.put, List.setIfInBounds_toArray, List.set_cons_zero, List.set_cons_succ, List.getElem_toArray, List.getElem_cons_zero, List.getElem_cons_succ]
    refine wpAnyX_take (i := 3) (v := ?v3) rfl (by kernel_rfl) (by kernel_rfl) (by kernel_rfl) (by kernel_rfl) (by kernel_rfl) (fun _ _ _ h => h) (Or.inl ⟨by rfl, ?hy3⟩) hHeld ?rest3
    case hy3 => intro w hSw; (try dsimp only at hSw); go_simp; try with_reducible rfl
    case rest3 =>
    simp only [Act.put, List.setIfInBounds_toArray, List.set_cons_zero, List.set_cons_succ, List.getElem_toArray, List.getElem_cons_zero, List.getElem_cons_succ]
    refine wpAnyX_take (i := 4) (v := ?v4) rfl (by kernel_rfl) (by kernel_rfl) (by kernel_rfl) (by kernel_rfl) (by kernel_rfl) (fun _ _ _ h => h) (Or.inl ⟨by rfl, ?hy4⟩) hHeld ?rest4
    case hy4 => intro w hSw; (try dsimp only at hSw); go_simp; try with_reducible rfl
    case rest4 =>
    simp only [Act.put, List.setIfInBounds_toArray, List.set_cons_zero, List.set_cons_succ, List.getElem_toArray, List.getElem_cons_zero, List.getElem_cons_succ]
    refine wpAnyX_take (i := 5) (v := ?v5) rfl (by kernel_rfl) (by kernel_rfl) (by kernel_rfl) (by kernel_rfl) (by kernel_rfl) (fun _ _ _ h => h) (Or.inl ⟨by rfl, ?hy5⟩) hHeld ?rest5
    case hy5 => intro w hSw; (try dsimp only at hSw); go_simp; try with_reducible rfl
    case rest5 =>
    simp only [Act.put, List.setIfInBounds_toArray, List.set_cons_zero, List.set_cons_succ, List.getElem_toArray, List.getElem_cons_zero, List.getElem_cons_succ]
    refine wpAnyX_take (i := 6) (v := ?v6) rfl (by kernel_rfl) (by kernel_rfl) (by kernel_rfl) (by kernel_rfl) (by kernel_rfl) (fun _ _ _ h => h) (Or.inl ⟨by rfl, ?hy6⟩) hHeld ?rest6
    case hy6 => intro w hSw; (try dsimp only at hSw); go_simp; try with_reducible rfl
    case rest6 =>
    simp only [Act.put, List.setIfInBounds_toArray, List.set_cons_zero, List.set_cons_succ, List.getElem_toArray, List.getElem_cons_zero, List.getElem_cons_succ]
    refine wpAnyX_take (i := 7) (v := ?v7) rfl (by kernel_rfl) (by kernel_rfl) (by kernel_rfl) (by kernel_rfl) (by kernel_rfl) (fun _ _ _ h => h) (Or.inl ⟨by rfl, ?hy7⟩) hHeld ?rest7
    case hy7 => intro w hSw; (try dsimp only at hSw); go_simp; try with_reducible rfl
    case rest7 =>
    simp only [Act.put, List.setIfInBounds_toArray, List.set_cons_zero, List.set_cons_succ, List.getElem_toArray, List.getElem_cons_zero, List.getElem_cons_succ]
    refine wpAnyX_take (i := 8) (v := ?v8) rfl (by kernel_rfl) (by kernel_rfl) (by kernel_rfl) (by kernel_rfl) (by kernel_rfl) (fun _ _ _ h => h) (Or.inl ⟨by rfl, ?hy8⟩) hHeld ?rest8
    case hy8 => intro w hSw; (try dsimp only at hSw); go_simp; try with_reducible rfl
    case rest8 =>
    simp only [Act.put, List.setIfInBounds_toArray, List.set_cons_zero, List.set_cons_succ, List.getElem_toArray, List.getElem_cons_zero, List.getElem_cons_succ]
    refine wpAnyX_take (i := 9) (v := ?v9) rfl (by kernel_rfl) (by kernel_rfl) (by kernel_rfl) (by kernel_rfl) (by kernel_rfl) (fun _ _ _ h => h) (Or.inl ⟨by rfl, ?hy9⟩) hHeld ?rest9
    case hy9 => intro w hSw; (try dsimp only at hSw); go_simp; try with_reducible rfl
    case rest9 =>
    simp only [Act.put, List.setIfInBounds_toArray, List.set_cons_zero, List.set_cons_succ, List.getElem_toArray, List.getElem_cons_zero, List.getElem_cons_succ]
    refine wpAnyX_take (i := 10) (v := ?v10) rfl (by kernel_rfl) (by kernel_rfl) (by kernel_rfl) (by kernel_rfl) (by kernel_rfl) (fun _ _ _ h => h) (Or.inl ⟨by rfl, ?hy10⟩) hHeld ?rest10
    case hy10 => intro w hSw; (try dsimp only at hSw); go_simp; try with_reducible rfl
    case rest10 =>
    simp only [Act.put, List.setIfInBounds_toArray, List.set_cons_zero, List.set_cons_succ, List.getElem_toArray, List.getElem_cons_zero, List.getElem_cons_succ]
    refine wpAnyX_take (i := 11) (v := ?v11) rfl (by kernel_rfl) (by kernel_rfl) (by kernel_rfl) (by kernel_rfl) (by kernel_rfl) (fun _ _ _ h => h) (Or.inl ⟨by rfl, ?hy11⟩) hHeld ?rest11
    case hy11 => intro w hSw; (try dsimp only at hSw); go_simp; try with_reducible rfl
    case rest11 =>
    simp only [Act.put, List.setIfInBounds_toArray, List.set_cons_zero, List.set_cons_succ, List.getElem_toArray, List.getElem_cons_zero, List.getElem_cons_succ]
    refine wpAnyX_take (i := 12) (v := ?v12) rfl (by kernel_rfl) (by kernel_rfl) (by kernel_rfl) (by kernel_rfl) (by kernel_rfl) (fun _ _ _ h => h) (Or.inl ⟨by rfl, ?hy12⟩) hHeld ?rest12
    case hy12 => intro w hSw; (try dsimp only at hSw); go_simp; try with_reducible rfl
    case rest12 =>
    simp only [Act.put, List.setIfInBounds_toArray, List.set_cons_zero, List.set_cons_succ, List.getElem_toArray, List.getElem_cons_zero, List.getElem_cons_succ]
    refine wpAnyX_one (i := 13) (by kernel_rfl) rfl (fun K hK => ?_)
    go_simp
    refine (hck _ (Below.refl _ _).drew).mono ?_
    rintro e w1 ⟨gp, cp, gw, cw, ao, n1, c1, w4, rfl, HC1, HC2, hrun, HC4, hfz, HB4⟩
    refine hK.out _ _ HC1 ?_
    clear hK K hHeld
    refine wpAnyX_one (i := 14) (by kernel_rfl) rfl (fun K hK => ?_)
    go_simp
    refine hK.out _ _ (HC2 _) ?_
    clear hK K
    refine wpAnyX_one (i := 15) (by kernel_rfl) rfl (fun K hK => ?_)
    refine step_appR rfl (.tmp 27) (.tmp 37) rfl _ _ rfl rfl hrun ?_
    refine hK.out _ _ HC4 ?_
    clear hK K
    have hHeld := HC4
    refine wpAnyX_take (i := 16) (v := ?v16) rfl (by kernel_rfl) (by kernel_rfl) (by kernel_rfl) (by kernel_rfl) (by kernel_rfl) (fun _ _ _ h => h) (Or.inl ⟨by rfl, ?hy16⟩) hHeld ?rest16
    case hy16 => intro w hSw; (try dsimp only at hSw); go_simp; try with_reducible rfl
    case rest16 =>
    simp only [Act.put, List.setIfInBounds_toArray, List.set_cons_zero, List.set_cons_succ, List.getElem_toArray, List.getElem_cons_zero, List.getElem_cons_succ]
    refine wpAnyX_take (i := 17) (v := ?v17) rfl (by kernel_rfl) (by kernel_rfl) (by kernel_rfl) (by kernel_rfl) (by kernel_rfl) (fun _ _ _ h => h) (Or.inl ⟨by rfl, ?hy17⟩) hHeld ?rest17
    case hy17 => intro w hSw; (try dsimp only at hSw); go_simp; try with_reducible rfl
    case rest17 =>
    simp only [Act.put, List.setIfInBounds_toArray, List.set_cons_zero, List.set_cons_succ, List.getElem_toArray, List.getElem_cons_zero, List.getElem_cons_succ]
    refine wpAnyX_last (i := 18) (by kernel_rfl) rfl (by kernel_rfl) (fun K hK => ?_)
    have hq4 := HC4.1
    go_simp
    refine hK.out _ _ ?_
    clear hK K hHeld
    refine wpAnyX_done (by kernel_rfl) ?_ _
    go_wp2
    go_ret
    exact ⟨rfl, HB4.out⟩
end Go.Proofs.Ytoimmapdkapheaa
/- The document's End. -/
namespace Go.Proofs.Ytoimmapdkapheaa
set_option maxRecDepth 4000
open Go.RowKit

theorem end_fin {F : Nat → Prop} {w w3 : World} {q : Nat} {v v' : Value} {T A0 B0 : Sps} {x : SpV × Sp} {A : Wd} (h : Bec F w ((Th.row rSp v' (heads (A0 ++ B0))).and (FmX q v T)) w3) (hT : T = A0 ++ x :: B0) (hok : FmOk (A0 ++ B0) A) : Bec F w (FmT q A) (w3.setCell ⟨q, 0, none⟩ v') := by
  obtain ⟨G, k1, k2⟩ := (h.imp (and_left _ _ _)).open
  have k3 := k2 (box_put k1 0 v')
  have k4 := ((k3.imp (and_mono (Th.le.refl _) (and_left _ _ _))).imp (and_left _ _ _)).right
  have e : (Th.all (spTs T)).le ((spT x).and (Th.all (spTs (A0 ++ B0)))) := by
    rw [hT]
    simp only [spTs, List.map_append, List.map_cons]
    exact all_pick _ _ _
  have k5 := ((k4.imp (and_mono (Th.le.refl _) (Th.le.trans (and_mono (Th.le.refl _) e) (and_left _ _ _)))).imp (and_left _ _ _)).right
  exact k5.imp fun {F' w'} k => ⟨(v', A0 ++ B0), hok, k⟩
/-- What the two appends leave. -/
structure EndP (w : World) (g c i len o c2 : Nat) (T' : Sps) (v1 : Value) (w2 : World) (v2 : Value) (w3 : World) : Prop where
  run1 : (Builtin.append_ #[27, 27] 27 #[.slice (some ⟨w.heap.size, 0, none⟩) 0 0, .slice (some ⟨g, 0, none⟩) i c]).run Try.prog (w.drew.alloc (.cells #[] 59)) = .ok v1 w2
  run2 : (Builtin.append_ #[27, 27] 27 #[v1, .slice (some ⟨g, o, none⟩) (len - (i + 1)) c2]).run Try.prog w2 = .ok v2 w3
  form1 : ∃ a n k, v1 = .slice a n k
  form2 : ∃ a n k, v2 = .slice a n k
  b2 : Below w.heap.size w w2
  b3 : Below w.heap.size w w3
  bec : Bec (fun _ => False) w (Th.row rSp v2 (heads T')) w3
theorem end_apps {w : World} {g c : Nat} {T : Sps} (hr : Row rSp 0 w (.slice (some ⟨g, 0, none⟩) T.length c) (heads T)) (hl : T.length ≤ 255) {i : Nat} (hi : i < T.length) (o c2 : Nat) (ho : T.length - (i + 1) = 0 ∨ o = (i + 1) * 3) :
    ∃ v1 w2 v2 w3, EndP w g c i T.length o c2 (T.take i ++ T.drop (i + 1)) v1 w2 v2 w3 := by
  have hb1 : Below w.heap.size w (w.drew.alloc (.cells #[] 59)) := (Below.refl _ _).drew.alloc (Nat.le_refl _) _
  have he : Row rSp w.heap.size (w.drew.alloc (.cells #[] 59)) (.slice (some ⟨w.heap.size, 0, none⟩) 0 0) [] := Row.of_cells (l' := []) (cur := #[]) (Nat.le_refl _) (heap_alloc_new w.drew _) (Nat.zero_le _) (Nat.zero_le _) (by simp) (fun k hk => absurd hk (Nat.not_lt_zero _))
  have hseen := hr.seen.2
  have s1 : Seen rSp w (some ⟨g, 0, none⟩) c (((heads T).drop 0).take i) := hseen.part 0 i 0 c (by rw [heads_len]; omega) (Or.inr (by simp))
  have s2 : Seen rSp w (some ⟨g, o, none⟩) c2 (((heads T).drop (i + 1)).take (T.length - (i + 1))) := hseen.part (i + 1) (T.length - (i + 1)) o c2 (by rw [heads_len]; omega) (ho.imp id fun h => by rw [h]; simp [rSp])
  have n1 : (((heads T).drop 0).take i).length = i := by rw [List.drop_zero, List.length_take, heads_len]; omega
  have n2 : (((heads T).drop (i + 1)).take (T.length - (i + 1))).length = T.length - (i + 1) := by rw [List.length_take, List.length_drop, heads_len]; omega
  obtain ⟨v1, w2, r1, h1, g1, o1, -⟩ := run_app' rSp.kin (w.drew.alloc (.cells #[] 59)) 27 w.heap.size _ [] _ he (some ⟨g, 0, none⟩) c (s1.below hb1) (by rw [n1]; unfold maxLen; simp; omega) (by rw [n1]; simp only [rSp, List.length_nil]; omega) (by simp)
  rw [n1] at r1
  have hb2 : Below w.heap.size w w2 := hb1.grown g1 (by simp) fun k hk => by simp [Value.ownBlock] at hk; omega
  rw [List.nil_append] at h1
  obtain ⟨v2, w3, r2, h2, g2, o2, -⟩ := run_app' rSp.kin w2 27 w.heap.size v1 _ _ h1 (some ⟨g, o, none⟩) c2 (s2.below hb2) (by rw [n1, n2]; unfold maxLen; omega) (by rw [n1, n2]; simp only [rSp]; omega) hb2.size
  rw [n2] at r2
  have hb3 : Below w.heap.size w w3 := hb2.grown g2 hb2.size fun k hk => (h1.lt k hk).1
  refine ⟨v1, w2, v2, w3, r1, r2, ?_, ?_, hb2, hb3, ?_⟩
  · obtain ⟨a, k, e⟩ := h1.form
    exact ⟨a, _, k, e⟩
  · obtain ⟨a, k, e⟩ := h2.form
    exact ⟨a, _, k, e⟩
  · have e : ((heads T).drop 0).take i ++ ((heads T).drop (i + 1)).take (T.length - (i + 1)) = heads (T.take i ++ T.drop (i + 1)) := by
      have e1 : ((heads T).drop (i + 1)).take (T.length - (i + 1)) = (heads T).drop (i + 1) := List.take_of_length_le (by rw [List.length_drop, heads_len]; exact Nat.le_refl _)
      rw [e1, List.drop_zero]
      simp [heads, List.map_take, List.map_drop]
    rw [← e]
    exact row_new h2 hb3
theorem nod_del {T : Sps} {i : Nat} (h : nodT T) : nodT (T.take i ++ T.drop (i + 1)) := by
  have key : ∀ a, a < (T.take i ++ T.drop (i + 1)).length → ∃ b, b < T.length ∧ (T.take i ++ T.drop (i + 1)).getD a zT = T.getD b zT ∧ (b = if a < i then a else a + 1) := fun a ha => by
    rw [List.length_append, List.length_take, List.length_drop] at ha
    by_cases c : a < i
    · refine ⟨a, by omega, ?_, by rw [if_pos c]⟩
      simp only [List.getD_eq_getElem?_getD]
      rw [List.getElem?_append_left (by rw [List.length_take]; omega), List.getElem?_take_of_lt c]
    · refine ⟨a + 1, by omega, ?_, by rw [if_neg c]⟩
      simp only [List.getD_eq_getElem?_getD]
      rw [List.getElem?_append_right (by rw [List.length_take]; omega), List.getElem?_drop, List.length_take]
      congr 2
      omega
  intro a b ha hb e
  obtain ⟨a', h1, h2, h3⟩ := key a ha
  obtain ⟨b', g1, g2, g3⟩ := key b hb
  rw [h2, g2] at e
  have := h a' b' h1 g1 e
  subst this
  rw [h3] at g3
  by_cases c : a < i <;> by_cases d : b < i
  · rwa [if_pos c, if_pos d] at g3
  · rw [if_pos c, if_neg d] at g3; omega
  · rw [if_neg c, if_pos d] at g3; omega
  · rw [if_neg c, if_neg d] at g3; omega
theorem split_at (T : Sps) {i : Nat} (hi : i < T.length) : T = T.take i ++ T.getD i zT :: T.drop (i + 1) := by
  rw [List.getD_eq_getElem?_getD, List.getElem?_eq_getElem hi, Option.getD_some, List.getElem_cons_drop, List.take_append_drop]
set_option maxRecDepth 100000 in
set_option maxHeartbeats 8000000 in
theorem rend_any {F : Nat → Prop} {w : World} {q : Nat} {A A' : Wd} {n code : Int} (h : (FmT q A).In F w) (hd : EndD A n code A') : Calls Try.prog 28 #[.pointer (some ⟨q, 0, none⟩), .int .i64 n] w (FmP F w q A' code) := by
  have HR : Hid (Bec F w (FmT q A) w) := Bec.refl h
  obtain ⟨⟨v, T⟩, hT, h⟩ := h
  simp only at h hT HR
  rcases hd with ⟨h1, rfl, rfl⟩ | ⟨h1, rfl, rfl⟩
  · have hf := rfind_no (n := n) (FmX.box h) (FmX.row h) hT.few (by rw [hT.eq]; exact h1)
    clear h hT h1
    go_enter Try.func28, Try.ntmps28
    go_wp2_with fail
    refine hf.mono ?_
    rintro e w1 ⟨rfl, hw⟩
    obtain rfl := hw.symm
    clear hw
    go_wp2
    go_ret
    exact ⟨rfl, HR.out⟩
  · obtain ⟨s, hs⟩ := Option.ne_none_iff_exists'.1 h1
    obtain ⟨i, hi, hin, -⟩ := lk_mem (T := T) (by rw [hT.eq]; exact hs)
    have hf := rfind_yes (FmX.box h) (FmX.row h) hT.few hT.nod hi hin
    obtain ⟨g, c, hv, hlt, -⟩ := fm_at h hi
    subst hv
    have hrow := FmX.row h
    obtain ⟨-, -, -, cur, -, hlc, hcm, -, -⟩ := hrow.cur
    rw [heads_len] at hlc
    have hfew := hT.few
    have c0 : w.cell? ⟨q, 0, none⟩ = some (.slice (some ⟨g, 0, none⟩) T.length c) := by rw [(FmX.box h).cell]; rfl
    have lq := (FmX.box h).lt
    have hok : FmOk (T.take i ++ T.drop (i + 1)) (A.set n none) := ⟨by rw [lk_del T hT.nod i hi, hT.eq, hin], hT.ok.del n, nod_del hT.nod⟩
    obtain ⟨o, ho1, ho2⟩ : ∃ o, (if c = i + 1 then some (⟨g, 0, none⟩ : Addr) else some ⟨g, (i + 1) * 3, none⟩) = some ⟨g, o, none⟩ ∧ (T.length - (i + 1) = 0 ∨ o = (i + 1) * 3) := by
      by_cases hc : c = i + 1
      · exact ⟨0, by rw [if_pos hc], Or.inl (by omega)⟩
      · exact ⟨(i + 1) * 3, by rw [if_neg hc], Or.inr rfl⟩
    obtain ⟨v1, w2, v2, w3, hE⟩ := end_apps hrow hfew hi o (c - (i + 1)) ho2
    obtain ⟨a1, m1, k1, rfl⟩ := hE.form1
    obtain ⟨a2, m2, k2, rfl⟩ := hE.form2
    have r1 := hE.run1
    have r2 := hE.run2
    have HF : Hid (Bec F w (FmT q (A.set n none)) (w3.setCell ⟨q, 0, none⟩ (.slice a2 m2 k2))) := by
      have hsp := split_at T hi
      obtain ⟨F3, f1, f2, f3⟩ := hE.bec
      refine end_fin (v := .slice (some ⟨g, 0, none⟩) T.length c) (x := T.getD i zT) (A0 := T.take i) (B0 := T.drop (i + 1)) (T := T) ?_ hsp hok
      exact (Bec.refl h).new hE.bec
    have hbox3 : Laid w3 q 29 #[.slice (some ⟨g, 0, none⟩) T.length c] := (FmX.box h).below hE.b3
    have x2 : w2.cell? ⟨q, 0, none⟩ = some (.slice (some ⟨g, 0, none⟩) T.length c) := (hE.b2.cell lq).trans c0
    have x3 : w3.cell? ⟨q, 0, none⟩ = some (.slice (some ⟨g, 0, none⟩) T.length c) := (hE.b3.cell lq).trans c0
    have fz : w3.frozen? ⟨q, 0, none⟩ = false := frozen_of_row w3 q 0 _ _ hbox3
    have x1 : ∀ u, (w.alloc u).cell? ⟨q, 0, none⟩ = some (.slice (some ⟨g, 0, none⟩) T.length c) := fun u => (cell_alloc_old lq 0 u).trans c0
    have hp1 : ¬ (i : Int) < 0 := by omega
    have q1 : (i : Int) ≤ (c : Int) := by omega
    have q2 : (0 : Int) ≤ (i : Int) + 1 ∧ (i : Int) + 1 ≤ (T.length : Int) := by omega
    have q3 : IntKind.i64.wrap ((i : Int) + 1) = (i : Int) + 1 := IntWalk.i64_in _ (by omega)
    have q4 : ((i : Int) + 1).toNat = i + 1 := by omega
    have hc9 : c ≤ 9223372036854775807 := by unfold maxLen at hcm; omega
    generalize T.length = len at *
    clear h hT h1 hs hi hin hrow hcm hok ho2 hE hbox3 HR hlt
    go_enter Try.func28, Try.ntmps28
    go_wp2_with fail
    refine hf.mono ?_
    rintro e w1 ⟨rfl, hw⟩
    obtain rfl := hw.symm
    clear hw hf
    go_wp2_with fail
    refine wp_region_X (fun w' => w'.cell? ⟨q, 0, none⟩ = some (.slice (some ⟨g, 0, none⟩) len c)) [19] (by kernel_rfl) ?_
    have hHeld : w.drew.cell? ⟨q, 0, none⟩ = some (.slice (some ⟨g, 0, none⟩) len c) := c0
    refine wpAnyX_take (i := 0) (v := ?v0) rfl (by kernel_rfl) (by kernel_rfl) (by kernel_rfl) (by kernel_rfl) (by kernel_rfl) (fun _ _ _ h => h) (Or.inl ⟨by rfl, ?hy0⟩) hHeld ?rest0
    case hy0 => intro w hSw; (try dsimp only at hSw); go_simp; try with_reducible rfl
    case rest0 =>
    simp only [Act.put, List.setIfInBounds_toArray, List.set_cons_zero, List.set_cons_succ, List.getElem_toArray, List.getElem_cons_zero]
    refine wpAnyX_take (i := 2) (v := ?v2) rfl (by kernel_rfl) (by kernel_rfl) (by kernel_rfl) (by kernel_rfl) (by kernel_rfl) (fun _ _ _ h => h) (Or.inl ⟨by rfl, ?hy2⟩) hHeld ?rest2
    case hy2 => intro w hSw; (try dsimp only at hSw); go_simp; try with_reducible rfl
    case rest2 =>
    simp only [Act.put, List.setIfInBounds_toArray, List.set_cons_zero, List.set_cons_succ, List.getElem_toArray, List.getElem_cons_zero, List.getElem_cons_succ]
    refine wpAnyX_take (i := 3) (v := ?v3) rfl (by kernel_rfl) (by kernel_rfl) (by kernel_rfl) (by kernel_rfl) (by kernel_rfl) (fun _ _ _ h => h) (Or.inl ⟨by rfl, ?hy3⟩) hHeld ?rest3
    case hy3 => intro w hSw; (try dsimp only at hSw); go_simp; try with_reducible rfl
    case rest3 =>
    simp only [Act.put, List.setIfInBounds_toArray, List.set_cons_zero, List.set_cons_succ, List.getElem_toArray, List.getElem_cons_zero, List.getElem_cons_succ]
    refine wpAnyX_take (i := 4) (v := ?v4) rfl (by kernel_rfl) (by kernel_rfl) (by kernel_rfl) (by kernel_rfl) (by kernel_rfl) (fun _ _ _ h => h) (Or.inl ⟨by rfl, ?hy4⟩) hHeld ?rest4
    case hy4 => intro w hSw; (try dsimp only at hSw); go_simp; try with_reducible rfl
    case rest4 =>
    simp only [Act.put, List.setIfInBounds_toArray, List.set_cons_zero, List.set_cons_succ, List.getElem_toArray, List.getElem_cons_zero, List.getElem_cons_succ]
    refine wpAnyX_take (i := 5) (v := ?v5) rfl (by kernel_rfl) (by kernel_rfl) (by kernel_rfl) (by kernel_rfl) (by kernel_rfl) (fun _ _ _ h => h) (Or.inl ⟨by rfl, ?hy5⟩) hHeld ?rest5
    case hy5 => intro w hSw; (try dsimp only at hSw); go_simp; try with_reducible rfl
    case rest5 =>
    simp only [Act.put, List.setIfInBounds_toArray, List.set_cons_zero, List.set_cons_succ, List.getElem_toArray, List.getElem_cons_zero, List.getElem_cons_succ]
    refine wpAnyX_take (i := 6) (v := ?v6) rfl (by kernel_rfl) (by kernel_rfl) (by kernel_rfl) (by kernel_rfl) (by kernel_rfl) (fun _ _ _ h => h) (Or.inl ⟨by rfl, ?hy6⟩) hHeld ?rest6
    case hy6 => intro w hSw; (try dsimp only at hSw); go_simp; try with_reducible rfl
    case rest6 =>
    simp only [Act.put, List.setIfInBounds_toArray, List.set_cons_zero, List.set_cons_succ, List.getElem_toArray, List.getElem_cons_zero, List.getElem_cons_succ]
    refine wpAnyX_take (i := 7) (v := ?v7) rfl (by kernel_rfl) (by kernel_rfl) (by kernel_rfl) (by kernel_rfl) (by kernel_rfl) (fun _ _ _ h => h) (Or.inl ⟨by rfl, ?hy7⟩) hHeld ?rest7
    case hy7 => intro w hSw; (try dsimp only at hSw); go_simp; try with_reducible rfl
    case rest7 =>
    simp only [Act.put, List.setIfInBounds_toArray, List.set_cons_zero, List.set_cons_succ, List.getElem_toArray, List.getElem_cons_zero, List.getElem_cons_succ]
    refine wpAnyX_take (i := 9) (v := ?v9) rfl (by kernel_rfl) (by kernel_rfl) (by kernel_rfl) (by kernel_rfl) (by kernel_rfl) (fun _ _ _ h => h) (Or.inl ⟨by rfl, ?hy9⟩) hHeld ?rest9
    case hy9 => intro w hSw; (try dsimp only at hSw); go_simp; try with_reducible rfl
    case rest9 =>
    simp only [Act.put, List.setIfInBounds_toArray, List.set_cons_zero, List.set_cons_succ, List.getElem_toArray, List.getElem_cons_zero, List.getElem_cons_succ]
    refine wpAnyX_take (i := 10) (v := ?v10) rfl (by kernel_rfl) (by kernel_rfl) (by kernel_rfl) (by kernel_rfl) (by kernel_rfl) (fun _ _ _ h => h) (Or.inl ⟨by rfl, ?hy10⟩) hHeld ?rest10
    case hy10 => intro w hSw; (try dsimp only at hSw); go_simp; try with_reducible rfl
    case rest10 =>
    simp only [Act.put, List.setIfInBounds_toArray, List.set_cons_zero, List.set_cons_succ, List.getElem_toArray, List.getElem_cons_zero, List.getElem_cons_succ]
    refine wpAnyX_take (i := 11) (v := ?v11) rfl (by kernel_rfl) (by kernel_rfl) (by kernel_rfl) (by kernel_rfl) (by kernel_rfl) (fun _ _ _ h => h) (Or.inl ⟨by rfl, ?hy11⟩) hHeld ?rest11
    case hy11 => intro w hSw; (try dsimp only at hSw); go_simp; try with_reducible rfl
    case rest11 =>
    simp only [Act.put, List.setIfInBounds_toArray, List.set_cons_zero, List.set_cons_succ, List.getElem_toArray, List.getElem_cons_zero, List.getElem_cons_succ]
    refine wpAnyX_take (i := 12) (v := ?v12) rfl (by kernel_rfl) (by kernel_rfl) (by kernel_rfl) (by kernel_rfl) (by kernel_rfl) (fun _ _ _ h => h) (Or.inl ⟨by rfl, ?hy12⟩) hHeld ?rest12
    case hy12 => intro w hSw; (try dsimp only at hSw); go_simp; try with_reducible rfl
    case rest12 =>
    simp only [Act.put, List.setIfInBounds_toArray, List.set_cons_zero, List.set_cons_succ, List.getElem_toArray, List.getElem_cons_zero, List.getElem_cons_succ]
    refine wpAnyX_take (i := 13) (v := ?v13) rfl (by kernel_rfl) (by kernel_rfl) (by kernel_rfl) (by kernel_rfl) (by kernel_rfl) (fun _ _ _ h => h) (Or.inl ⟨by rfl, ?hy13⟩) hHeld ?rest13
    case hy13 => intro w hSw; (try dsimp only at hSw); go_simp; try with_reducible rfl
    case rest13 =>
    simp only [Act.put, List.setIfInBounds_toArray, List.set_cons_zero, List.set_cons_succ, List.getElem_toArray, List.getElem_cons_zero, List.getElem_cons_succ]
    refine wpAnyX_take (i := 14) (v := ?v14) rfl (by kernel_rfl) (by kernel_rfl) (by kernel_rfl) (by kernel_rfl) (by kernel_rfl) (fun _ _ _ h => h) (Or.inl ⟨by rfl, ?hy14⟩) hHeld ?rest14
    case hy14 => intro w hSw; (try dsimp only at hSw); go_simp; try with_reducible rfl
    case rest14 =>
    simp only [Act.put, List.setIfInBounds_toArray, List.set_cons_zero, List.set_cons_succ, List.getElem_toArray, List.getElem_cons_zero, List.getElem_cons_succ]
    refine wpAnyX_take (i := 15) (v := ?v15) rfl (by kernel_rfl) (by kernel_rfl) (by kernel_rfl) (by kernel_rfl) (by kernel_rfl) (fun _ _ _ h => h) (Or.inl ⟨by rfl, ?hy15⟩) hHeld ?rest15
    case hy15 => intro w hSw; (try dsimp only at hSw); go_simp; try with_reducible rfl
    case rest15 =>
    simp only [Act.put, List.setIfInBounds_toArray, List.set_cons_zero, List.set_cons_succ, List.getElem_toArray, List.getElem_cons_zero, List.getElem_cons_succ]
    refine wpAnyX_one (i := 1) (by kernel_rfl) rfl (fun K hK => ?_)
    go_simp
    refine hK.out _ _ (x1 _) ?_
    clear hK K hHeld
    refine wpAnyX_one (i := 8) (by kernel_rfl) rfl (fun K hK => ?_)
    refine step_appR rfl (.tmp 12) (.tmp 18) rfl _ _ rfl rfl r1 ?_
    refine hK.out _ _ x2 ?_
    clear hK K
    refine wpAnyX_one (i := 16) (by kernel_rfl) rfl (fun K hK => ?_)
    refine step_appR rfl (.tmp 19) (.tmp 26) rfl _ _ rfl rfl r2 ?_
    refine hK.out _ _ x3 ?_
    clear hK K
    have hHeld := x3
    refine wpAnyX_take (i := 17) (v := ?v17) rfl (by kernel_rfl) (by kernel_rfl) (by kernel_rfl) (by kernel_rfl) (by kernel_rfl) (fun _ _ _ h => h) (Or.inl ⟨by rfl, ?hy17⟩) hHeld ?rest17
    case hy17 => intro w hSw; (try dsimp only at hSw); go_simp; try with_reducible rfl
    case rest17 =>
    simp only [Act.put, List.setIfInBounds_toArray, List.set_cons_zero, List.set_cons_succ, List.getElem_toArray, List.getElem_cons_zero, List.getElem_cons_succ]
    refine wpAnyX_take (i := 18) (v := ?v18) rfl (by kernel_rfl) (by kernel_rfl) (by kernel_rfl) (by kernel_rfl) (by kernel_rfl) (fun _ _ _ h => h) (Or.inl ⟨by rfl, ?hy18⟩) hHeld ?rest18
    case hy18 => intro w hSw; (try dsimp only at hSw); go_simp; try with_reducible rfl
    case rest18 =>
    simp only [Act.put, List.setIfInBounds_toArray, List.set_cons_zero, List.set_cons_succ, List.getElem_toArray, List.getElem_cons_zero, List.getElem_cons_succ]
    refine wpAnyX_last (i := 19) (by kernel_rfl) rfl (by kernel_rfl) (fun K hK => ?_)
    go_simp
    refine hK.out _ _ ?_
    clear hK K hHeld
    refine wpAnyX_done (by kernel_rfl) ?_ _
    go_wp2
    go_ret
    exact ⟨rfl, HF.out⟩
end Go.Proofs.Ytoimmapdkapheaa
/- The document's list of some pages. -/
namespace Go.Proofs.Ytoimmapdkapheaa
set_option maxRecDepth 4000
open Go.RowKit

theorem eqP_pg (s t : Option Pg) : eqP (pgA s) (pgA t) = decide (s = t) := by
  by_cases h : s = t
  · subst h
    rw [(eqP_iff _ _).2 rfl, decide_eq_true rfl]
  · rw [decide_eq_false h]
    cases hq : eqP (pgA s) (pgA t) with
    | false => rfl
    | true => exact absurd (pgA_inj ((eqP_iff _ _).1 hq)) h

set_option maxRecDepth 100000 in
set_option maxHeartbeats 8000000 in
theorem to_any {w : World} {ao : Option Addr} {c : Nat} {f : Int → Option Pg} {M : List AAr} (hs : Sn rAPg w ao (pagesA f)) (hM : CanA f M) :
    Calls Try.prog 35 #[.slice ao 4096 c] w fun e w' => ∃ v, e = .returned (.tuple #[v, .bool (decide (M.length ≤ 64))]) ∧ Row rAAr w.heap.size w' v M ∧ Below w.heap.size w w' := by
  have HS : Hid (Sn rAPg w ao (pagesA f)) := hs
  have HM : Hid (CanA f M) := hM
  clear hs hM
  go_enter Try.func35, Try.ntmps35
  go_wp2
  go_loopw [4, 5] (fun ov iv W => ∃ (n : Nat) (T : List AAr), n ≤ 4096 ∧ iv = .int .i64 n ∧ Hid (Row rAAr w.heap.size W ov T) ∧ Hid (TilA f n T) ∧ Hid (T.length ≤ n) ∧ Hid (n = 0 ∨ n = 4096 ∨ f ((n : Int) - 1) ≠ f n) ∧ Hid (Below w.heap.size w W)) (fun _ iv _ => 4096 - (intOf iv).toNat)
  case atStart => exact ⟨0, [], by omega, rfl, Row.nil _ _ _, TilA.nil f, Nat.le_refl _, Or.inl rfl, Below.refl _ _⟩
  case round =>
    obtain ⟨n, T, hn, rfl, HV, HT, HTL, HE, HB⟩ := hrel
    by_cases hlt : n < 4096
    · have hltz : (n : Int) < 4096 := by omega
      have HAS : Hid (∀ (k : Nat) (W : World), k < 4096 → Below w.heap.size w W → ∃ g off, ao = some ⟨g, off, none⟩ ∧ g < W.heap.size ∧ W.cell? ⟨g, off + k * 4, none⟩ = some (.bool (pgA (f k)).is) ∧ W.cell? ⟨g, off + k * 4 + 1, none⟩ = some (.bool (pgA (f k)).w) ∧ W.cell? ⟨g, off + k * 4 + 2, none⟩ = some (.bool (pgA (f k)).x) ∧ W.cell? ⟨g, off + k * 4 + 3, none⟩ = some (.bool (pgA (f k)).h)) := fun k W hk hb => APg.sn (HS.out.below hb) hk
      have HV0 : Hid (Row rAAr w.heap.size wr u4 T) := HV
      obtain ⟨W0, hW0⟩ : ∃ W0, W0 = wr := ⟨_, rfl⟩
      have HW0 : Hid (W0 = wr) := hW0
      clear hW0
      go_wp2
      go_loopw [6] (fun tv W => ∃ m : Nat, n < m ∧ m ≤ 4096 ∧ tv = .int .i64 m ∧ Hid (∀ p : Int, (n : Int) ≤ p → p < (m : Int) → f p = f n) ∧ Hid (∃ j, W = W0.drewN j)) (fun tv _ => 4096 - (intOf tv).toNat)
      case atStart => exact ⟨n + 1, by omega, by omega, by go_num, fun p h1 h2 => by rw [show p = (n : Int) by omega], ⟨0, HW0.out.symm⟩⟩
      case round =>
        obtain ⟨m, hm1, hm2, rfl, HP, HJ⟩ := hrel
        obtain ⟨j, hj⟩ := HJ.out
        have hHB : Below w.heap.size w wr := by
          rw [hj, HW0.out]
          exact below_drewN HB.out j
        by_cases hm4 : m < 4096
        · have hmz : (m : Int) < 4096 := by omega
          obtain ⟨g, off, rfl, hg, c0, c1, c2, c3⟩ := HAS.out n wr hlt hHB
          obtain ⟨g', off', e', -, d0, d1, d2, d3⟩ := HAS.out m wr hm4 hHB
          cases e'
          have hq := fun w => eql_pg (pgA (f m)) (pgA (f n)) w
          rw [eqP_pg] at hq
          have HJ2 : Hid (∀ i, ∃ j, wr.drewN i = W0.drewN j) := fun i => ⟨j + i, by rw [hj, World.drewN_drewN]⟩
          by_cases hfe : f m = f n
          · rw [decide_eq_true hfe] at hq
            have HP2 : Hid (∀ p : Int, (n : Int) ≤ p → p < ((m + 1 : Nat) : Int) → f p = f n) := fun p h1 h2 => by
              by_cases h3 : p < (m : Int)
              · exact HP.out p h1 h3
              · rw [show p = (m : Int) by omega, hfe]
            generalize pgA (f m) = x at *
            generalize pgA (f n) = y at *
            unfold pv at hq
            clear hfe hj hHB HJ HP
            go_wp2
            go_quiet (fail)
            go_wp2
            go_roundw
            case rel => exact ⟨m + 1, by omega, by omega, by go_num, HP2, HJ2.out _⟩
            case measure => simp only [intOf]; omega
          · rw [decide_eq_false hfe] at hq
            have HX : Hid (m = 0 ∨ m = 4096 ∨ f ((m : Int) - 1) ≠ f m) := by
              refine Or.inr (Or.inr ?_)
              rw [HP.out ((m : Int) - 1) (by omega) (by omega)]
              exact fun e => hfe e.symm
            have HBW : Hid (Below w.heap.size w wr) := hHB
            have HVW : Hid (Row rAAr w.heap.size wr u4 T) := by
              rw [hj]
              exact (show Row rAAr w.heap.size W0 u4 T from by rw [HW0.out]; exact HV0.out).below (below_drewN (Below.refl _ _) j)
            have HTLM : Hid (T.length ≤ n) := HTL
            cases hfn : f n with
            | none =>
              have HT2 : Hid (TilA f (m : Int) T) := HT.out.skip (by omega) fun p h1 h2 => by rw [HP.out p h1 h2, hfn]
              rw [hfn] at c0 c1 c2 c3 hq
              generalize pgA (f m) = x at *
              unfold pv at hq
              simp only [pgA] at c0 c1 c2 c3 hq
              clear hfn hfe hj hHB HJ HJ2 HP HT HV0 HE HAS
              go_wp2
              go_quiet (fail)
              go_wp2
              go_roundw
              case rel => exact ⟨m, T, by omega, rfl, HVW.out.below (below_drewN (Below.refl _ _) _), HT2, (show T.length ≤ m by have := HTLM.out; omega), HX, below_drewN HBW.out _⟩
              case measure => simp only [intOf]; omega
            | some t =>
              have HT2 : Hid (TilA f (m : Int) (T ++ [AAr.of n m t])) := HT.out.run (by omega) (by omega) (by omega) (fun p h1 h2 => by rw [HP.out p h1 h2, hfn]) (by
                rcases HE.out with h | h | h
                · exact Or.inl (by omega)
                · omega
                · exact Or.inr (by rw [← hfn]; exact h))
              rw [hfn] at c0 c1 c2 c3 hq
              generalize pgA (f m) = x at *
              unfold pv at hq
              obtain ⟨tw, tx, th⟩ := t
              simp only [pgA] at c0 c1 c2 c3 hq
              have hAr := fun w => rarea_any ⟨true, tw, tx, th⟩ n m w
              unfold pv av at hAr
              simp only at hAr
              clear hfn hfe hj hHB HJ HJ2 HP HT HV0 HE HAS
              go_wp2
              go_quiet (fail)
              go_wp2_with fail
              refine (hAr _).mono ?_
              rintro e w6 ⟨rfl, hb6⟩
              have HB6 : Hid (Below w.heap.size w w6) := below_call' (below_drewN HBW.out _) hb6
              have HR6 : Hid (∀ o1, Row rAAr w.heap.size (w6.alloc o1) u4 T) := fun o1 => ((HVW.out.below (below_drewN (Below.refl _ _) _)).below hb6).below (new_below _ _)
              clear hAr hb6 c0 c1 c2 c3 d0 d1 d2 d3 hq
              go_wp2_with (at_builtin; refine list_app AAr.kin rfl _ _ rfl w.heap.size _ T [⟨n, m, tw, tx, th⟩] rfl (HR6.out _) (some ⟨w6.heap.size, 0, none⟩) 1 1 rfl rfl ?a2 ?a3 ?a4 ?a5 ?_)
              case a2 => exact Seen.one (by simp) (At.new (R := rAAr) w6 ⟨n, m, tw, tx, th⟩ _ rfl) 1
              case a3 => have := HTLM.out; show T.length + 1 ≤ maxLen; unfold maxLen; omega
              case a4 => have := HTLM.out; show (T.length + 1) * 24 ≤ 140737488355328; omega
              case a5 => have := HB6.out.size; simp; omega
              intro v' w7 hrow hgrow
              have HR7 : Hid (Row rAAr w.heap.size w7 v' (T ++ [AAr.of n m (tw, tx, th)])) := hrow
              have HB7 : Hid (Below w.heap.size w w7) := (HB6.out.alloc HB6.out.size _).grown hgrow (by have := HB6.out.size; simp; omega) (fun k hk => ((HR6.out default).lt k hk).1)
              clear hrow hgrow HR6 HVW
              go_wp2
              go_roundw
              case rel => exact ⟨m, T ++ [AAr.of n m (tw, tx, th)], by omega, rfl, HR7, HT2, (show (T ++ [AAr.of n m (tw, tx, th)]).length ≤ m by have := HTLM.out; rw [List.length_append, List.length_cons, List.length_nil]; omega), HX, HB7⟩
              case measure => simp only [intOf]; omega
        · have hm : m = 4096 := by omega
          have hmz : decide ((m : Int) < 4096) = false := decide_eq_false (by omega)
          obtain ⟨g, off, rfl, hg, c0, c1, c2, c3⟩ := HAS.out n wr hlt hHB
          have HX : Hid (m = 0 ∨ m = 4096 ∨ f ((m : Int) - 1) ≠ f m) := by
            exact Or.inr (Or.inl hm)
          have HBW : Hid (Below w.heap.size w wr) := hHB
          have HVW : Hid (Row rAAr w.heap.size wr u4 T) := by
            rw [hj]
            exact (show Row rAAr w.heap.size W0 u4 T from by rw [HW0.out]; exact HV0.out).below (below_drewN (Below.refl _ _) j)
          have HTLM : Hid (T.length ≤ n) := HTL
          cases hfn : f n with
          | none =>
            have HT2 : Hid (TilA f (m : Int) T) := HT.out.skip (by omega) fun p h1 h2 => by rw [HP.out p h1 h2, hfn]
            rw [hfn] at c0 c1 c2 c3
            simp only [pgA] at c0 c1 c2 c3
            clear hm hfn hj hHB HJ HP HT HV0 HE HAS
            go_wp2
            go_quiet (fail)
            go_wp2
            go_roundw
            case rel => exact ⟨m, T, by omega, rfl, HVW.out.below (below_drewN (Below.refl _ _) _), HT2, (show T.length ≤ m by have := HTLM.out; omega), HX, below_drewN HBW.out _⟩
            case measure => simp only [intOf]; omega
          | some t =>
            have HT2 : Hid (TilA f (m : Int) (T ++ [AAr.of n m t])) := HT.out.run (by omega) (by omega) (by omega) (fun p h1 h2 => by rw [HP.out p h1 h2, hfn]) (by
              rcases HE.out with h | h | h
              · exact Or.inl (by omega)
              · omega
              · exact Or.inr (by rw [← hfn]; exact h))
            rw [hfn] at c0 c1 c2 c3
            obtain ⟨tw, tx, th⟩ := t
            simp only [pgA] at c0 c1 c2 c3
            have hAr := fun w => rarea_any ⟨true, tw, tx, th⟩ n m w
            unfold pv av at hAr
            simp only at hAr
            clear hm hfn hj hHB HJ HP HT HV0 HE HAS
            go_wp2
            go_quiet (fail)
            go_wp2_with fail
            refine (hAr _).mono ?_
            rintro e w6 ⟨rfl, hb6⟩
            have HB6 : Hid (Below w.heap.size w w6) := below_call' (below_drewN HBW.out _) hb6
            have HR6 : Hid (∀ o1, Row rAAr w.heap.size (w6.alloc o1) u4 T) := fun o1 => ((HVW.out.below (below_drewN (Below.refl _ _) _)).below hb6).below (new_below _ _)
            clear hAr hb6 c0 c1 c2 c3
            go_wp2_with (at_builtin; refine list_app AAr.kin rfl _ _ rfl w.heap.size _ T [⟨n, m, tw, tx, th⟩] rfl (HR6.out _) (some ⟨w6.heap.size, 0, none⟩) 1 1 rfl rfl ?a2 ?a3 ?a4 ?a5 ?_)
            case a2 => exact Seen.one (by simp) (At.new (R := rAAr) w6 ⟨n, m, tw, tx, th⟩ _ rfl) 1
            case a3 => have := HTLM.out; show T.length + 1 ≤ maxLen; unfold maxLen; omega
            case a4 => have := HTLM.out; show (T.length + 1) * 24 ≤ 140737488355328; omega
            case a5 => have := HB6.out.size; simp; omega
            intro v' w7 hrow hgrow
            have HR7 : Hid (Row rAAr w.heap.size w7 v' (T ++ [AAr.of n m (tw, tx, th)])) := hrow
            have HB7 : Hid (Below w.heap.size w w7) := (HB6.out.alloc HB6.out.size _).grown hgrow (by have := HB6.out.size; simp; omega) (fun k hk => ((HR6.out default).lt k hk).1)
            clear hrow hgrow HR6 HVW
            go_wp2
            go_roundw
            case rel => exact ⟨m, T ++ [AAr.of n m (tw, tx, th)], by omega, rfl, HR7, HT2, (show (T ++ [AAr.of n m (tw, tx, th)]).length ≤ m by have := HTLM.out; rw [List.length_append, List.length_cons, List.length_nil]; omega), HX, HB7⟩
            case measure => simp only [intOf]; omega
    · obtain rfl : n = 4096 := by omega
      have hTM : T = M := (TilA.can HT.out).uniq HM.out
      subst hTM
      obtain ⟨a4, c4, e4⟩ := HV.out.form
      subst e4
      have HR : Hid (Row rAAr w.heap.size wr (.slice a4 T.length c4) T) := HV
      have HD : Hid (decide ((T.length : Int) ≤ 64) = decide (T.length ≤ 64)) := by
        have : ((T.length : Int) ≤ 64) ↔ T.length ≤ 64 := by omega
        simp only [Hid, this]
      clear HV HT HTL HE HM
      go_wp2
      go_ret2
      refine ⟨.slice a4 T.length c4, ?_, HR.out, HB.out⟩
      show Ending.returned (.tuple #[.slice a4 T.length c4, .bool (decide ((T.length : Int) ≤ 64))]) = _
      rw [HD.out]
end Go.Proofs.Ytoimmapdkapheaa
/- The document's Change; whether what is told is right. -/
namespace Go.Proofs.Ytoimmapdkapheaa
set_option maxRecDepth 4000
open Go.RowKit

/-- What is laid: rights, or Huge. -/
def chgT (r x y h : Bool) : Pg → Pg := if r = true then fun p => (x, y, p.2.2) else fun p => (p.1, p.2.1, h)
theorem map_step {f : Int → Option Pg} {a k : Nat} {t : Pg → Pg} {z : Pg} (hk : a ≤ k) (hz : f k = some z) : pagesA (mapA f a ((k + 1 : Nat) : Int) t) = (pagesA (mapA f a k t)).set k (pgA (some (t z))) := by
  rw [pages_set]
  apply pages_congr
  intro p _ _
  unfold mapA
  by_cases e : p = (k : Int)
  · rw [if_pos e, if_pos (by omega), e, hz]
    rfl
  · rw [if_neg e]
    by_cases e2 : (a : Int) ≤ p ∧ p < (k : Int)
    · rw [if_pos e2, if_pos (by omega)]
    · rw [if_neg e2, if_neg (by omega)]
def ChgW (B : Nat) (w : World) (g c : Nat) (f : Int → Option Pg) (a b : Nat) (t : Pg → Pg) (e : Ending) (w' : World) : Prop :=
  ((∀ p : Int, (a : Int) ≤ p → p < (b : Int) → f p ≠ none) ∧ e = .returned (.bool true) ∧ Row rAPg B w' (.slice (some ⟨g, 0, none⟩) 4096 c) (pagesA (mapA f a b t)) ∧ Keeps w w' (fun x => x = g)) ∨
  ((∃ p : Int, (a : Int) ≤ p ∧ p < (b : Int) ∧ f p = none) ∧ e = .returned (.bool false) ∧ Row rAPg B w' (.slice (some ⟨g, 0, none⟩) 4096 c) (pagesA f) ∧ Keeps w w' (fun x => x = g))
theorem map_none (f : Int → Option Pg) (a : Nat) (t : Pg → Pg) : pagesA (mapA f a a t) = pagesA f := pages_congr fun p _ _ => if_neg (by omega)
set_option maxRecDepth 100000 in
set_option maxHeartbeats 8000000 in
theorem rchange_any {B : Nat} {w : World} {g c : Nat} {f : Int → Option Pg} (hr : Row rAPg B w (.slice (some ⟨g, 0, none⟩) 4096 c) (pagesA f)) (a b : Nat) (hab : a ≤ b) (hb4 : b ≤ 4096) (r x y z : Bool) :
    Calls Try.prog 51 #[.slice (some ⟨g, 0, none⟩) 4096 c, .int .i64 a, .int .i64 b, .bool r, .agg #[.bool x, .bool y], .bool z] w (ChgW B w g c f a b (chgT r x y z)) := by
  have hgw : g < w.heap.size := (hr.lt g rfl).2
  have hb0 := new_below w (.cells #[.bool x, .bool y] 31)
  have HR0 : Hid (Row rAPg B (w.alloc (.cells #[.bool x, .bool y] 31)) (.slice (some ⟨g, 0, none⟩) 4096 c) (pagesA f)) := hr.below hb0
  have HB0 : Hid (Below w.heap.size w (w.alloc (.cells #[.bool x, .bool y] 31))) := hb0
  have HX0 : Hid (Laid (w.alloc (.cells #[.bool x, .bool y] 31)) w.heap.size 31 #[.bool x, .bool y]) := Laid.new _ _ _
  have HAS : Hid (∀ k, k < 4096 → w.cell? ⟨g, k * 4, none⟩ = some (.bool (f (k : Nat)).isSome)) := fun k hk => by
    obtain ⟨g', e', -, -, -, -, -, hat⟩ := hr.at (show k < _ by rw [pages_len]; exact hk)
    cases e'
    obtain ⟨p0, -⟩ := APg.at hat
    rw [show rAPg.zero = APg.zero from rfl, pages_get f hk, pgA_is] at p0
    exact p0
  have HK0 : Hid (Keeps w (w.alloc (.cells #[.bool x, .bool y] 31)) (fun x => x = g)) := Keeps.of_below hb0 _
  clear hr hb0
  go_enter Try.func51, Try.ntmps51
  go_wp2
  go_loopw [13] (fun iv W => W = w.alloc (.cells #[.bool x, .bool y] 31) ∧ ∃ k : Nat, a ≤ k ∧ k ≤ b ∧ iv = .int .i64 k ∧ Hid (∀ p : Int, (a : Int) ≤ p → p < (k : Int) → f p ≠ none)) (fun iv _ => b - (intOf iv).toNat)
  case atStart => exact ⟨rfl, a, Nat.le_refl _, hab, rfl, fun p h1 h2 => by omega⟩
  case round =>
    obtain ⟨rfl, k, hk1, hk2, rfl, HP⟩ := hrel
    by_cases hkb : k < b
    · have hkz : (k : Int) < (b : Int) := by omega
      have hk4 : (k : Int) < 4096 := by omega
      have c0 := HAS.out k (by omega)
      cases hf : f k with
      | none =>
        rw [hf, Option.isSome_none] at c0
        have HN : Hid (∃ p : Int, (a : Int) ≤ p ∧ p < (b : Int) ∧ f p = none) := ⟨k, by omega, by omega, hf⟩
        clear hf HP HAS
        go_wp2
        go_ret
        exact Or.inr ⟨HN.out, rfl, HR0.out, HK0.out⟩
      | some q =>
        rw [hf, Option.isSome_some] at c0
        have HP2 : Hid (∀ p : Int, (a : Int) ≤ p → p < ((k + 1 : Nat) : Int) → f p ≠ none) := fun p h1 h2 => by
          by_cases h3 : p < (k : Int)
          · exact HP.out p h1 h3
          · rw [show p = (k : Int) by omega, hf]
            simp
        clear hf HP
        go_wp2
        go_roundw
        case rel => exact ⟨by first | rfl | trivial, k + 1, by omega, by omega, by go_num, HP2⟩
        case measure => simp only [intOf]; omega
    · have hkz : ¬ (k : Int) < (b : Int) := by omega
      have HALL : Hid (∀ p : Int, (a : Int) ≤ p → p < (b : Int) → f p ≠ none) := fun p h1 h2 => HP.out p h1 (by omega)
      have HRA : Hid (Row rAPg B (w.alloc (.cells #[.bool x, .bool y] 31)) (.slice (some ⟨g, 0, none⟩) 4096 c) (pagesA (mapA f a a (chgT r x y z)))) := by
        rw [map_none]
        exact HR0.out
      clear HP HAS HR0 hk1 hk2
      go_wp2
      go_loopw [14] (fun iv W => ∃ j : Nat, a ≤ j ∧ j ≤ b ∧ iv = .int .i64 j ∧ Hid (Row rAPg B W (.slice (some ⟨g, 0, none⟩) 4096 c) (pagesA (mapA f a j (chgT r x y z)))) ∧ Hid (Laid W w.heap.size 31 #[.bool x, .bool y]) ∧ Hid (Keeps w W (fun x => x = g))) (fun iv _ => b - (intOf iv).toNat)
      case atStart => exact ⟨a, Nat.le_refl _, hab, rfl, HRA, HX0, HK0⟩
      case round =>
        obtain ⟨j, hj1, hj2, rfl, HR, HX, HK⟩ := hrel
        clear HRA HX0 HK0 HB0
        by_cases hjb : j < b
        · have hjz : (j : Int) < (b : Int) := by omega
          have hj4 : (j : Int) < 4096 := by omega
          obtain ⟨q, hq⟩ : ∃ q, f j = some q := by
            cases e : f j with
            | none => exact absurd e (HALL.out j (by omega) (by omega))
            | some q => exact ⟨q, rfl⟩
          have hjl : j < (pagesA (mapA f a j (chgT r x y z))).length := by rw [pages_len]; omega
          obtain ⟨g', e', -, -, hqw, -, -, hat⟩ := HR.out.at hjl
          cases e'
          rw [show rAPg.zero = APg.zero from rfl, pages_get _ (show j < 4096 by omega), show mapA f a j (chgT r x y z) j = some q from by unfold mapA; rw [if_neg (by omega)]; exact hq] at hat
          have hpg : (pagesA (mapA f a j (chgT r x y z))).getD j rAPg.zero = pgA (some q) := by
            rw [show rAPg.zero = APg.zero from rfl, pages_get _ (show j < 4096 by omega)]
            unfold mapA
            rw [if_neg (by omega), hq]
          obtain ⟨p0, p1, p2, p3⟩ := APg.at hat
          simp only [show rAPg.n = 4 from rfl] at p0 p1 p2 p3
          have hfz := fun o => HR.out.frozen o
          obtain ⟨b0, b1⟩ : wr.cell? ⟨w.heap.size, 0, none⟩ = some (.bool x) ∧ wr.cell? ⟨w.heap.size, 1, none⟩ = some (.bool y) := ⟨HX.out.cell 0, HX.out.cell 1⟩
          have hne : g ≠ w.heap.size := by omega
          have hst := map_step (t := chgT r x y z) hj1 hq
          have HKS : Hid (∀ W o (v : Value), Keeps w W (fun x => x = g) → Keeps w (W.setCell ⟨g, o, none⟩ v) (fun x => x = g)) := fun W o v h => h.trans (Keeps.set W g o v) fun _ _ h => h
          have HXS : Hid (∀ W o (v : Value), Laid W w.heap.size 31 #[.bool x, .bool y] → Laid (W.setCell ⟨g, o, none⟩ v) w.heap.size 31 #[.bool x, .bool y]) := fun W o v h => (heap_setCell_other W _ w.heap.size v (fun e => hne e.symm)).trans h
          obtain ⟨qw, qx, qh⟩ := q
          cases r with
          | true =>
            have HN : Hid (Row rAPg B ((wr.setCell ⟨g, j * 4 + 1, none⟩ (.bool x)).setCell ⟨g, j * 4 + 2, none⟩ (.bool y)) (.slice (some ⟨g, 0, none⟩) 4096 c) (pagesA (mapA f a ((j + 1 : Nat) : Int) (chgT true x y z)))) := by
              rw [hst]
              refine HR.out.sets j 1 [.bool x, .bool y] _ hjl (show 1 + 2 ≤ 4 by decide) (fun i hi => ?_) (fun i hi hn => ?_)
              · have hi2 : i < 2 := hi
                match i, hi2 with
                | 0, _ => rfl
                | 1, _ => rfl
              · have hi4 : i < 4 := hi
                have hn2 : i < 1 ∨ 3 ≤ i := hn
                rw [hpg]
                match i, hi4, hn2 with
                | 0, _, _ => rfl
                | 3, _, _ => rfl
                | 1, _, h => exact absurd h (by omega)
                | 2, _, h => exact absurd h (by omega)
            clear hst hpg hat HR hjl hq
            go_wp2
            go_roundw
            case rel => exact ⟨j + 1, by omega, by omega, by go_num, HN, HXS.out _ _ _ (HXS.out _ _ _ HX.out), HKS.out _ _ _ (HKS.out _ _ _ HK.out)⟩
            case measure => simp only [intOf]; omega
          | false =>
            have HN : Hid (Row rAPg B (wr.setCell ⟨g, j * 4 + 3, none⟩ (.bool z)) (.slice (some ⟨g, 0, none⟩) 4096 c) (pagesA (mapA f a ((j + 1 : Nat) : Int) (chgT false x y z)))) := by
              rw [hst]
              refine HR.out.sets j 3 [.bool z] _ hjl (show 3 + 1 ≤ 4 by decide) (fun i hi => ?_) (fun i hi hn => ?_)
              · have hi2 : i < 1 := hi
                match i, hi2 with
                | 0, _ => rfl
              · have hi4 : i < 4 := hi
                have hn2 : i < 3 ∨ 4 ≤ i := hn
                rw [hpg]
                match i, hi4, hn2 with
                | 0, _, _ => rfl
                | 1, _, _ => rfl
                | 2, _, _ => rfl
                | 3, _, h => exact absurd h (by omega)
            clear hst hpg hat HR hjl hq
            go_wp2
            go_roundw
            case rel => exact ⟨j + 1, by omega, by omega, by go_num, HN, HXS.out _ _ _ HX.out, HKS.out _ _ _ HK.out⟩
            case measure => simp only [intOf]; omega
        · obtain rfl : j = b := by omega
          clear HX
          go_wp2
          go_ret
          exact Or.inl ⟨HALL.out, rfl, HR.out, HK.out⟩
end Go.Proofs.Ytoimmapdkapheaa
/- The document's examples. -/
namespace Go.Proofs.Ytoimmapdkapheaa
set_option maxRecDepth 4000
open Go.RowKit

theorem LayW.yes {w w' : World} {M : List AAr} {e : Ending} (h : LayW w M e w') (c : M.length ≤ 64) : ∃ v, e = .returned (.tuple #[v, .nilIface]) ∧ Row rAAr w.heap.size w' v M ∧ Below w.heap.size w w' := by
  have h1 := h.1
  rw [if_pos c] at h1
  obtain ⟨v, e1, r⟩ := h1
  exact ⟨v, e1, r, h.2⟩
theorem may_one (a b : Int) (x y z : Bool) (h : SpanA a b) : MayA [⟨a, b, x, y, z⟩] := by
  obtain ⟨h1, h2, h3⟩ := h
  exact ⟨by simp, h1, h2, h3, (fun _ k => by cases k), trivial⟩
theorem up_lay (w : World) :
    Calls Try.prog 43 #[.slice (some ⟨w.heap.size, 0, none⟩) 1 1, av ⟨4, 6, false, false, false⟩] (w.alloc (.cells (AAr.arr ⟨0, 4, false, false, false⟩) 55)) fun e w' => ∃ g c, e = .returned (.tuple #[.slice (some ⟨g, 0, none⟩) 1 c, .nilIface]) ∧ Hid (Row rAAr w.heap.size w' (.slice (some ⟨g, 0, none⟩) 1 c) [⟨0, 6, false, false, false⟩]) ∧ Hid (Below w.heap.size w w') := by
  have hb := new_below w (.cells (AAr.arr ⟨0, 4, false, false, false⟩) 55)
  refine (lay_any (c := 1) (Sn.newd w ⟨0, 4, false, false, false⟩) (by unfold maxLen; simp) ⟨4, 6, false, false, false⟩).mono fun e w' h => ?_
  rcases h with ⟨_, h⟩ | ⟨⟨h, _⟩, _⟩
  · obtain ⟨v, e1, r, hb2⟩ := h.yes (by decide)
    have r' : Row rAAr (w.alloc (.cells (AAr.arr ⟨0, 4, false, false, false⟩) 55)).heap.size w' v [⟨0, 6, false, false, false⟩] := r
    rcases r'.cases with ⟨-, e2⟩ | ⟨g, c, cur, e2, -⟩
    · cases e2
    · subst e2
      exact ⟨g, c, e1, r'.lower hb.size, below_call' hb hb2⟩
  · exact absurd ⟨may_one 0 4 _ _ _ ⟨by omega, by omega, by omega⟩, (⟨by omega, by omega, by omega⟩ : SpanA 4 6)⟩ h
theorem up_cut (w : World) :
    Calls Try.prog 48 #[.slice (some ⟨w.heap.size, 0, none⟩) 1 1, .int .i64 2, .int .i64 4] (w.alloc (.cells (AAr.arr ⟨0, 6, false, false, false⟩) 55)) fun e w' => ∃ g c, e = .returned (.tuple #[.slice (some ⟨g, 0, none⟩) 2 c, .nilIface]) ∧ Hid (Row rAAr w.heap.size w' (.slice (some ⟨g, 0, none⟩) 2 c) [⟨0, 2, false, false, false⟩, ⟨4, 6, false, false, false⟩]) ∧ Hid (Below w.heap.size w w') := by
  have hb := new_below w (.cells (AAr.arr ⟨0, 6, false, false, false⟩) 55)
  refine (cut_any (c := 1) (Sn.newd w ⟨0, 6, false, false, false⟩) (by unfold maxLen; simp) 2 4).mono fun e w' h => ?_
  rcases h with ⟨_, h⟩ | ⟨⟨h, _⟩, _⟩
  · obtain ⟨v, e1, r, hb2⟩ := h.yes (by decide)
    have r' : Row rAAr (w.alloc (.cells (AAr.arr ⟨0, 6, false, false, false⟩) 55)).heap.size w' v [⟨0, 2, false, false, false⟩, ⟨4, 6, false, false, false⟩] := r
    rcases r'.cases with ⟨-, e2⟩ | ⟨g, c, cur, e2, -⟩
    · cases e2
    · subst e2
      exact ⟨g, c, e1, r'.lower hb.size, below_call' hb hb2⟩
  · exact absurd ⟨may_one 0 6 _ _ _ ⟨by omega, by omega, by omega⟩, (⟨by omega, by omega, by omega⟩ : SpanA 2 4)⟩ h
end Go.Proofs.Ytoimmapdkapheaa
/- Whether what is told is right. -/
namespace Go.Proofs.Ytoimmapdkapheaa
set_option maxRecDepth 4000
open Go.RowKit

end Go.Proofs.Ytoimmapdkapheaa
