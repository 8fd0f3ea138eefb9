/- The document's End. -/
import Derived.Test.YtoimmapdkapheaaFRFk
namespace Go.Proofs.Ytoimmapdkapheaa
set_option maxRecDepth 4000
open Go.RowKit

theorem end_fin {F : Nat → Prop} {w w3 : World} {q : Nat} {v v' : Value} {T A0 B0 : Sps} {x : SpV × Sp} {A : Wd} (h : Bec F w ((Th.row rSp v' (heads (A0 ++ B0))).and (FmX q v T)) w3) (hT : T = A0 ++ x :: B0) (hok : FmOk (A0 ++ B0) A) : Bec F w (FmT q A) (w3.setCell ⟨q, 0, none⟩ v') := by
  obtain ⟨G, k1, k2⟩ := (h.imp (and_left _ _ _)).open
  have k3 := k2 (box_put k1 0 v')
  have k4 := ((k3.imp (and_mono (Th.le.refl _) (and_left _ _ _))).imp (and_left _ _ _)).right
  have e : (Th.all (spTs T)).le ((spT x).and (Th.all (spTs (A0 ++ B0)))) := by
    rw [hT]
    simp only [spTs, List.map_append, List.map_cons]
    exact all_pick _ _ _
  have k5 := ((k4.imp (and_mono (Th.le.refl _) (Th.le.trans (and_mono (Th.le.refl _) e) (and_left _ _ _)))).imp (and_left _ _ _)).right
  exact k5.imp fun {F' w'} k => ⟨(v', A0 ++ B0), hok, k⟩
/-- What the two appends leave. -/
structure EndP (w : World) (g c i len o c2 : Nat) (T' : Sps) (v1 : Value) (w2 : World) (v2 : Value) (w3 : World) : Prop where
  run1 : (Builtin.append_ #[27, 27] 27 #[.slice (some ⟨w.heap.size, 0, none⟩) 0 0, .slice (some ⟨g, 0, none⟩) i c]).run Try.prog (w.drew.alloc (.cells #[] 59)) = .ok v1 w2
  run2 : (Builtin.append_ #[27, 27] 27 #[v1, .slice (some ⟨g, o, none⟩) (len - (i + 1)) c2]).run Try.prog w2 = .ok v2 w3
  form1 : ∃ a n k, v1 = .slice a n k
  form2 : ∃ a n k, v2 = .slice a n k
  b2 : Below w.heap.size w w2
  b3 : Below w.heap.size w w3
  bec : Bec (fun _ => False) w (Th.row rSp v2 (heads T')) w3
theorem end_apps {w : World} {g c : Nat} {T : Sps} (hr : Row rSp 0 w (.slice (some ⟨g, 0, none⟩) T.length c) (heads T)) (hl : T.length ≤ 255) {i : Nat} (hi : i < T.length) (o c2 : Nat) (ho : T.length - (i + 1) = 0 ∨ o = (i + 1) * 3) :
    ∃ v1 w2 v2 w3, EndP w g c i T.length o c2 (T.take i ++ T.drop (i + 1)) v1 w2 v2 w3 := by
  have hb1 : Below w.heap.size w (w.drew.alloc (.cells #[] 59)) := (Below.refl _ _).drew.alloc (Nat.le_refl _) _
  have he : Row rSp w.heap.size (w.drew.alloc (.cells #[] 59)) (.slice (some ⟨w.heap.size, 0, none⟩) 0 0) [] := Row.of_cells (l' := []) (cur := #[]) (Nat.le_refl _) (heap_alloc_new w.drew _) (Nat.zero_le _) (Nat.zero_le _) (by simp) (fun k hk => absurd hk (Nat.not_lt_zero _))
  have hseen := hr.seen.2
  have s1 : Seen rSp w (some ⟨g, 0, none⟩) c (((heads T).drop 0).take i) := hseen.part 0 i 0 c (by rw [heads_len]; omega) (Or.inr (by simp))
  have s2 : Seen rSp w (some ⟨g, o, none⟩) c2 (((heads T).drop (i + 1)).take (T.length - (i + 1))) := hseen.part (i + 1) (T.length - (i + 1)) o c2 (by rw [heads_len]; omega) (ho.imp id fun h => by rw [h]; simp [rSp])
  have n1 : (((heads T).drop 0).take i).length = i := by rw [List.drop_zero, List.length_take, heads_len]; omega
  have n2 : (((heads T).drop (i + 1)).take (T.length - (i + 1))).length = T.length - (i + 1) := by rw [List.length_take, List.length_drop, heads_len]; omega
  obtain ⟨v1, w2, r1, h1, g1, o1, -⟩ := run_app' rSp.kin (w.drew.alloc (.cells #[] 59)) 27 w.heap.size _ [] _ he (some ⟨g, 0, none⟩) c (s1.below hb1) (by rw [n1]; unfold maxLen; simp; omega) (by rw [n1]; simp only [rSp, List.length_nil]; omega) (by simp)
  rw [n1] at r1
  have hb2 : Below w.heap.size w w2 := hb1.grown g1 (by simp) fun k hk => by simp [Value.ownBlock] at hk; omega
  rw [List.nil_append] at h1
  obtain ⟨v2, w3, r2, h2, g2, o2, -⟩ := run_app' rSp.kin w2 27 w.heap.size v1 _ _ h1 (some ⟨g, o, none⟩) c2 (s2.below hb2) (by rw [n1, n2]; unfold maxLen; omega) (by rw [n1, n2]; simp only [rSp]; omega) hb2.size
  rw [n2] at r2
  have hb3 : Below w.heap.size w w3 := hb2.grown g2 hb2.size fun k hk => (h1.lt k hk).1
  refine ⟨v1, w2, v2, w3, r1, r2, ?_, ?_, hb2, hb3, ?_⟩
  · obtain ⟨a, k, e⟩ := h1.form
    exact ⟨a, _, k, e⟩
  · obtain ⟨a, k, e⟩ := h2.form
    exact ⟨a, _, k, e⟩
  · have e : ((heads T).drop 0).take i ++ ((heads T).drop (i + 1)).take (T.length - (i + 1)) = heads (T.take i ++ T.drop (i + 1)) := by
      have e1 : ((heads T).drop (i + 1)).take (T.length - (i + 1)) = (heads T).drop (i + 1) := List.take_of_length_le (by rw [List.length_drop, heads_len]; exact Nat.le_refl _)
      rw [e1, List.drop_zero]
      simp [heads, List.map_take, List.map_drop]
    rw [← e]
    exact row_new h2 hb3
theorem nod_del {T : Sps} {i : Nat} (h : nodT T) : nodT (T.take i ++ T.drop (i + 1)) := by
  have key : ∀ a, a < (T.take i ++ T.drop (i + 1)).length → ∃ b, b < T.length ∧ (T.take i ++ T.drop (i + 1)).getD a zT = T.getD b zT ∧ (b = if a < i then a else a + 1) := fun a ha => by
    rw [List.length_append, List.length_take, List.length_drop] at ha
    by_cases c : a < i
    · refine ⟨a, by omega, ?_, by rw [if_pos c]⟩
      simp only [List.getD_eq_getElem?_getD]
      rw [List.getElem?_append_left (by rw [List.length_take]; omega), List.getElem?_take_of_lt c]
    · refine ⟨a + 1, by omega, ?_, by rw [if_neg c]⟩
      simp only [List.getD_eq_getElem?_getD]
      rw [List.getElem?_append_right (by rw [List.length_take]; omega), List.getElem?_drop, List.length_take]
      congr 2
      omega
  intro a b ha hb e
  obtain ⟨a', h1, h2, h3⟩ := key a ha
  obtain ⟨b', g1, g2, g3⟩ := key b hb
  rw [h2, g2] at e
  have := h a' b' h1 g1 e
  subst this
  rw [h3] at g3
  by_cases c : a < i <;> by_cases d : b < i
  · rwa [if_pos c, if_pos d] at g3
  · rw [if_pos c, if_neg d] at g3; omega
  · rw [if_neg c, if_pos d] at g3; omega
  · rw [if_neg c, if_neg d] at g3; omega
theorem split_at (T : Sps) {i : Nat} (hi : i < T.length) : T = T.take i ++ T.getD i zT :: T.drop (i + 1) := by
  rw [List.getD_eq_getElem?_getD, List.getElem?_eq_getElem hi, Option.getD_some, List.getElem_cons_drop, List.take_append_drop]
set_option maxRecDepth 100000 in
set_option maxHeartbeats 8000000 in
theorem rend_any {F : Nat → Prop} {w : World} {q : Nat} {A A' : Wd} {n code : Int} (h : (FmT q A).In F w) (hd : EndD A n code A') : Calls Try.prog 28 #[.pointer (some ⟨q, 0, none⟩), .int .i64 n] w (FmP F w q A' code) := by
  have HR : Hid (Bec F w (FmT q A) w) := Bec.refl h
  obtain ⟨⟨v, T⟩, hT, h⟩ := h
  simp only at h hT HR
  rcases hd with ⟨h1, rfl, rfl⟩ | ⟨h1, rfl, rfl⟩
  · have hf := rfind_no (n := n) (FmX.box h) (FmX.row h) hT.few (by rw [hT.eq]; exact h1)
    clear h hT h1
    go_enter Try.func28, Try.ntmps28
    go_wp2_with fail
    refine hf.mono ?_
    rintro e w1 ⟨rfl, hw⟩
    obtain rfl := hw.symm
    clear hw
    go_wp2
    go_ret
    exact ⟨rfl, HR.out⟩
  · obtain ⟨s, hs⟩ := Option.ne_none_iff_exists'.1 h1
    obtain ⟨i, hi, hin, -⟩ := lk_mem (T := T) (by rw [hT.eq]; exact hs)
    have hf := rfind_yes (FmX.box h) (FmX.row h) hT.few hT.nod hi hin
    obtain ⟨g, c, hv, hlt, -⟩ := fm_at h hi
    subst hv
    have hrow := FmX.row h
    obtain ⟨-, -, -, cur, -, hlc, hcm, -, -⟩ := hrow.cur
    rw [heads_len] at hlc
    have hfew := hT.few
    have c0 : w.cell? ⟨q, 0, none⟩ = some (.slice (some ⟨g, 0, none⟩) T.length c) := by rw [(FmX.box h).cell]; rfl
    have lq := (FmX.box h).lt
    have hok : FmOk (T.take i ++ T.drop (i + 1)) (A.set n none) := ⟨by rw [lk_del T hT.nod i hi, hT.eq, hin], hT.ok.del n, nod_del hT.nod⟩
    obtain ⟨o, ho1, ho2⟩ : ∃ o, (if c = i + 1 then some (⟨g, 0, none⟩ : Addr) else some ⟨g, (i + 1) * 3, none⟩) = some ⟨g, o, none⟩ ∧ (T.length - (i + 1) = 0 ∨ o = (i + 1) * 3) := by
      by_cases hc : c = i + 1
      · exact ⟨0, by rw [if_pos hc], Or.inl (by omega)⟩
      · exact ⟨(i + 1) * 3, by rw [if_neg hc], Or.inr rfl⟩
    obtain ⟨v1, w2, v2, w3, hE⟩ := end_apps hrow hfew hi o (c - (i + 1)) ho2
    obtain ⟨a1, m1, k1, rfl⟩ := hE.form1
    obtain ⟨a2, m2, k2, rfl⟩ := hE.form2
    have r1 := hE.run1
    have r2 := hE.run2
    have HF : Hid (Bec F w (FmT q (A.set n none)) (w3.setCell ⟨q, 0, none⟩ (.slice a2 m2 k2))) := by
      have hsp := split_at T hi
      obtain ⟨F3, f1, f2, f3⟩ := hE.bec
      refine end_fin (v := .slice (some ⟨g, 0, none⟩) T.length c) (x := T.getD i zT) (A0 := T.take i) (B0 := T.drop (i + 1)) (T := T) ?_ hsp hok
      exact (Bec.refl h).new hE.bec
    have hbox3 : Laid w3 q 29 #[.slice (some ⟨g, 0, none⟩) T.length c] := (FmX.box h).below hE.b3
    have x2 : w2.cell? ⟨q, 0, none⟩ = some (.slice (some ⟨g, 0, none⟩) T.length c) := (hE.b2.cell lq).trans c0
    have x3 : w3.cell? ⟨q, 0, none⟩ = some (.slice (some ⟨g, 0, none⟩) T.length c) := (hE.b3.cell lq).trans c0
    have fz : w3.frozen? ⟨q, 0, none⟩ = false := frozen_of_row w3 q 0 _ _ hbox3
    have x1 : ∀ u, (w.alloc u).cell? ⟨q, 0, none⟩ = some (.slice (some ⟨g, 0, none⟩) T.length c) := fun u => (cell_alloc_old lq 0 u).trans c0
    have hp1 : ¬ (i : Int) < 0 := by omega
    have q1 : (i : Int) ≤ (c : Int) := by omega
    have q2 : (0 : Int) ≤ (i : Int) + 1 ∧ (i : Int) + 1 ≤ (T.length : Int) := by omega
    have q3 : IntKind.i64.wrap ((i : Int) + 1) = (i : Int) + 1 := IntWalk.i64_in _ (by omega)
    have q4 : ((i : Int) + 1).toNat = i + 1 := by omega
    have hc9 : c ≤ 9223372036854775807 := by unfold maxLen at hcm; omega
    generalize T.length = len at *
    clear h hT h1 hs hi hin hrow hcm hok ho2 hE hbox3 HR hlt
    go_enter Try.func28, Try.ntmps28
    go_wp2_with fail
    refine hf.mono ?_
    rintro e w1 ⟨rfl, hw⟩
    obtain rfl := hw.symm
    clear hw hf
    go_wp2_with fail
    refine wp_region_X (fun w' => w'.cell? ⟨q, 0, none⟩ = some (.slice (some ⟨g, 0, none⟩) len c)) [19] (by kernel_rfl) ?_
    have hHeld : w.drew.cell? ⟨q, 0, none⟩ = some (.slice (some ⟨g, 0, none⟩) len c) := c0
    refine wpAnyX_take (i := 0) (v := ?v0) rfl (by kernel_rfl) (by kernel_rfl) (by kernel_rfl) (by kernel_rfl) (by kernel_rfl) (fun _ _ _ h => h) (Or.inl ⟨by rfl, ?hy0⟩) hHeld ?rest0
    case hy0 => intro w hSw; (try dsimp only at hSw); go_simp; try with_reducible rfl
    case rest0 =>
    simp only [Act.put, List.setIfInBounds_toArray, List.set_cons_zero, List.set_cons_succ, List.getElem_toArray, List.getElem_cons_zero]
    refine wpAnyX_take (i := 2) (v := ?v2) rfl (by kernel_rfl) (by kernel_rfl) (by kernel_rfl) (by kernel_rfl) (by kernel_rfl) (fun _ _ _ h => h) (Or.inl ⟨by rfl, ?hy2⟩) hHeld ?rest2
    case hy2 => intro w hSw; (try dsimp only at hSw); go_simp; try with_reducible rfl
    case rest2 =>
    simp only [Act.put, List.setIfInBounds_toArray, List.set_cons_zero, List.set_cons_succ, List.getElem_toArray, List.getElem_cons_zero, List.getElem_cons_succ]
    refine wpAnyX_take (i := 3) (v := ?v3) rfl (by kernel_rfl) (by kernel_rfl) (by kernel_rfl) (by kernel_rfl) (by kernel_rfl) (fun _ _ _ h => h) (Or.inl ⟨by rfl, ?hy3⟩) hHeld ?rest3
    case hy3 => intro w hSw; (try dsimp only at hSw); go_simp; try with_reducible rfl
    case rest3 =>
    simp only [Act.put, List.setIfInBounds_toArray, List.set_cons_zero, List.set_cons_succ, List.getElem_toArray, List.getElem_cons_zero, List.getElem_cons_succ]
    refine wpAnyX_take (i := 4) (v := ?v4) rfl (by kernel_rfl) (by kernel_rfl) (by kernel_rfl) (by kernel_rfl) (by kernel_rfl) (fun _ _ _ h => h) (Or.inl ⟨by rfl, ?hy4⟩) hHeld ?rest4
    case hy4 => intro w hSw; (try dsimp only at hSw); go_simp; try with_reducible rfl
    case rest4 =>
    simp only [Act.put, List.setIfInBounds_toArray, List.set_cons_zero, List.set_cons_succ, List.getElem_toArray, List.getElem_cons_zero, List.getElem_cons_succ]
    refine wpAnyX_take (i := 5) (v := ?v5) rfl (by kernel_rfl) (by kernel_rfl) (by kernel_rfl) (by kernel_rfl) (by kernel_rfl) (fun _ _ _ h => h) (Or.inl ⟨by rfl, ?hy5⟩) hHeld ?rest5
    case hy5 => intro w hSw; (try dsimp only at hSw); go_simp; try with_reducible rfl
    case rest5 =>
    simp only [Act.put, List.setIfInBounds_toArray, List.set_cons_zero, List.set_cons_succ, List.getElem_toArray, List.getElem_cons_zero, List.getElem_cons_succ]
    refine wpAnyX_take (i := 6) (v := ?v6) rfl (by kernel_rfl) (by kernel_rfl) (by kernel_rfl) (by kernel_rfl) (by kernel_rfl) (fun _ _ _ h => h) (Or.inl ⟨by rfl, ?hy6⟩) hHeld ?rest6
    case hy6 => intro w hSw; (try dsimp only at hSw); go_simp; try with_reducible rfl
    case rest6 =>
    simp only [Act.put, List.setIfInBounds_toArray, List.set_cons_zero, List.set_cons_succ, List.getElem_toArray, List.getElem_cons_zero, List.getElem_cons_succ]
    refine wpAnyX_take (i := 7) (v := ?v7) rfl (by kernel_rfl) (by kernel_rfl) (by kernel_rfl) (by kernel_rfl) (by kernel_rfl) (fun _ _ _ h => h) (Or.inl ⟨by rfl, ?hy7⟩) hHeld ?rest7
    case hy7 => intro w hSw; (try dsimp only at hSw); go_simp; try with_reducible rfl
    case rest7 =>
    simp only [Act.put, List.setIfInBounds_toArray, List.set_cons_zero, List.set_cons_succ, List.getElem_toArray, List.getElem_cons_zero, List.getElem_cons_succ]
    refine wpAnyX_take (i := 9) (v := ?v9) rfl (by kernel_rfl) (by kernel_rfl) (by kernel_rfl) (by kernel_rfl) (by kernel_rfl) (fun _ _ _ h => h) (Or.inl ⟨by rfl, ?hy9⟩) hHeld ?rest9
    case hy9 => intro w hSw; (try dsimp only at hSw); go_simp; try with_reducible rfl
    case rest9 =>
    simp only [Act.put, List.setIfInBounds_toArray, List.set_cons_zero, List.set_cons_succ, List.getElem_toArray, List.getElem_cons_zero, List.getElem_cons_succ]
    refine wpAnyX_take (i := 10) (v := ?v10) rfl (by kernel_rfl) (by kernel_rfl) (by kernel_rfl) (by kernel_rfl) (by kernel_rfl) (fun _ _ _ h => h) (Or.inl ⟨by rfl, ?hy10⟩) hHeld ?rest10
    case hy10 => intro w hSw; (try dsimp only at hSw); go_simp; try with_reducible rfl
    case rest10 =>
    simp only [Act.put, List.setIfInBounds_toArray, List.set_cons_zero, List.set_cons_succ, List.getElem_toArray, List.getElem_cons_zero, List.getElem_cons_succ]
    refine wpAnyX_take (i := 11) (v := ?v11) rfl (by kernel_rfl) (by kernel_rfl) (by kernel_rfl) (by kernel_rfl) (by kernel_rfl) (fun _ _ _ h => h) (Or.inl ⟨by rfl, ?hy11⟩) hHeld ?rest11
    case hy11 => intro w hSw; (try dsimp only at hSw); go_simp; try with_reducible rfl
    case rest11 =>
    simp only [Act.put, List.setIfInBounds_toArray, List.set_cons_zero, List.set_cons_succ, List.getElem_toArray, List.getElem_cons_zero, List.getElem_cons_succ]
    refine wpAnyX_take (i := 12) (v := ?v12) rfl (by kernel_rfl) (by kernel_rfl) (by kernel_rfl) (by kernel_rfl) (by kernel_rfl) (fun _ _ _ h => h) (Or.inl ⟨by rfl, ?hy12⟩) hHeld ?rest12
    case hy12 => intro w hSw; (try dsimp only at hSw); go_simp; try with_reducible rfl
    case rest12 =>
    simp only [Act.put, List.setIfInBounds_toArray, List.set_cons_zero, List.set_cons_succ, List.getElem_toArray, List.getElem_cons_zero, List.getElem_cons_succ]
    refine wpAnyX_take (i := 13) (v := ?v13) rfl (by kernel_rfl) (by kernel_rfl) (by kernel_rfl) (by kernel_rfl) (by kernel_rfl) (fun _ _ _ h => h) (Or.inl ⟨by rfl, ?hy13⟩) hHeld ?rest13
    case hy13 => intro w hSw; (try dsimp only at hSw); go_simp; try with_reducible rfl
    case rest13 =>
    simp only [Act.put, List.setIfInBounds_toArray, List.set_cons_zero, List.set_cons_succ, List.getElem_toArray, List.getElem_cons_zero, List.getElem_cons_succ]
    refine wpAnyX_take (i := 14) (v := ?v14) rfl (by kernel_rfl) (by kernel_rfl) (by kernel_rfl) (by kernel_rfl) (by kernel_rfl) (fun _ _ _ h => h) (Or.inl ⟨by rfl, ?hy14⟩) hHeld ?rest14
    case hy14 => intro w hSw; (try dsimp only at hSw); go_simp; try with_reducible rfl
    case rest14 =>
    simp only [Act.put, List.setIfInBounds_toArray, List.set_cons_zero, List.set_cons_succ, List.getElem_toArray, List.getElem_cons_zero, List.getElem_cons_succ]
    refine wpAnyX_take (i := 15) (v := ?v15) rfl (by kernel_rfl) (by kernel_rfl) (by kernel_rfl) (by kernel_rfl) (by kernel_rfl) (fun _ _ _ h => h) (Or.inl ⟨by rfl, ?hy15⟩) hHeld ?rest15
    case hy15 => intro w hSw; (try dsimp only at hSw); go_simp; try with_reducible rfl
    case rest15 =>
    simp only [Act.put, List.setIfInBounds_toArray, List.set_cons_zero, List.set_cons_succ, List.getElem_toArray, List.getElem_cons_zero, List.getElem_cons_succ]
    refine wpAnyX_one (i := 1) (by kernel_rfl) rfl (fun K hK => ?_)
    go_simp
    refine hK.out _ _ (x1 _) ?_
    clear hK K hHeld
    refine wpAnyX_one (i := 8) (by kernel_rfl) rfl (fun K hK => ?_)
    refine step_appR rfl (.tmp 12) (.tmp 18) rfl _ _ rfl rfl r1 ?_
    refine hK.out _ _ x2 ?_
    clear hK K
    refine wpAnyX_one (i := 16) (by kernel_rfl) rfl (fun K hK => ?_)
    refine step_appR rfl (.tmp 19) (.tmp 26) rfl _ _ rfl rfl r2 ?_
    refine hK.out _ _ x3 ?_
    clear hK K
    have hHeld := x3
    refine wpAnyX_take (i := 17) (v := ?v17) rfl (by kernel_rfl) (by kernel_rfl) (by kernel_rfl) (by kernel_rfl) (by kernel_rfl) (fun _ _ _ h => h) (Or.inl ⟨by rfl, ?hy17⟩) hHeld ?rest17
    case hy17 => intro w hSw; (try dsimp only at hSw); go_simp; try with_reducible rfl
    case rest17 =>
    simp only [Act.put, List.setIfInBounds_toArray, List.set_cons_zero, List.set_cons_succ, List.getElem_toArray, List.getElem_cons_zero, List.getElem_cons_succ]
    refine wpAnyX_take (i := 18) (v := ?v18) rfl (by kernel_rfl) (by kernel_rfl) (by kernel_rfl) (by kernel_rfl) (by kernel_rfl) (fun _ _ _ h => h) (Or.inl ⟨by rfl, ?hy18⟩) hHeld ?rest18
    case hy18 => intro w hSw; (try dsimp only at hSw); go_simp; try with_reducible rfl
    case rest18 =>
    simp only [Act.put, List.setIfInBounds_toArray, List.set_cons_zero, List.set_cons_succ, List.getElem_toArray, List.getElem_cons_zero, List.getElem_cons_succ]
    refine wpAnyX_last (i := 19) (by kernel_rfl) rfl (by kernel_rfl) (fun K hK => ?_)
    go_simp
    refine hK.out _ _ ?_
    clear hK K hHeld
    refine wpAnyX_done (by kernel_rfl) ?_ _
    go_wp2
    go_ret
    exact ⟨rfl, HF.out⟩
end Go.Proofs.Ytoimmapdkapheaa
