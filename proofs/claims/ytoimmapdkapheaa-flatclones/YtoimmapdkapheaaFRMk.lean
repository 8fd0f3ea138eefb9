/- The document's Make. -/
import Derived.Test.YtoimmapdkapheaaFPush
namespace Go.Proofs.Ytoimmapdkapheaa
set_option maxRecDepth 4000
open Go.RowKit

section
variable {P : Program} {α : Type} {R : Rec α} {s : TypeId}
theorem run_makeA (k : Kin P R s) (hz : ∀ i z, P.info? R.t = some i → i.zero = some z → z.cells = (R.cells R.zero).toArray) (n : Nat) (hm : n ≤ maxLen) (hb : R.bytes * n ≤ 281474976710656) :
    ∃ cs : Array Value, ∀ w, (Instr.makeSlice s (.int .i64 n) (.int .i64 n)).run P w = .ok (.slice (some ⟨w.heap.size, 0, none⟩) n n) (w.alloc (.cells cs R.t)) ∧ Row R w.heap.size (w.alloc (.cells cs R.t)) (.slice (some ⟨w.heap.size, 0, none⟩) n n) (List.replicate n R.zero) := by
  obtain ⟨i, z, hi, hz0, hz1, hz2, hzs⟩ := k.inf
  have hzc := hz i z hi hz0
  have hb' : (i.bytes : Int) * (n : Int) ≤ 281474976710656 := by
    have h : ((i.bytes * n : Nat) : Int) ≤ 281474976710656 := by rw [hz2]; omega
    rwa [Int.natCast_mul] at h
  refine ⟨madeCells z.cells (n * i.size), fun w => ?_⟩
  have hr := run_make (P := P) w s R.t i z k.und hi hz0 .i64 .i64 n n (by omega) (Int.le_refl _) hb' (by unfold maxLen at hm; omega)
  simp only [Int.toNat_natCast] at hr
  refine ⟨hr, ?_⟩
  have hlen : (List.replicate n R.zero).length = n := by simp
  have := Row.of_cells (R := R) (B := w.heap.size) (w' := w.alloc (.cells (madeCells z.cells (n * i.size)) R.t)) (g := w.heap.size) (c := n) (l' := List.replicate n R.zero) (Nat.le_refl _) (heap_alloc_new w _) (by rw [hlen]; exact Nat.le_refl _) hm (by rw [size_madeCells, hz1]) (by
    intro q hq j hj
    rw [hlen] at hq
    have hlt : q * R.n + j < n * R.n := by
      have : (q + 1) * R.n ≤ n * R.n := Nat.mul_le_mul_right _ hq
      rw [Nat.add_mul] at this
      omega
    rw [hz1, made_at _ _ _ hlt, hzc]
    have e1 : (q * R.n + j) % (R.cells R.zero).toArray.size = j := by
      rw [List.size_toArray, R.len, Nat.mul_comm, Nat.mul_add_mod, Nat.mod_eq_of_lt hj]
    rw [e1, List.getD_eq_getElem?_getD, List.getElem?_replicate, if_pos hq, Option.getD_some]
    have hjl : j < (R.cells R.zero).length := by rw [R.len]; exact hj
    rw [List.getElem?_eq_getElem hjl]
    simp [hjl])
  rwa [hlen] at this
end
theorem pages_new : pagesA newS.f = List.replicate 4096 rAPg.zero := by
  unfold pagesA newS
  exact ofF_const 4096 (pgA none)
theorem words_new : wordsA newS.wd = List.replicate 4096 rW8.zero := words_zero
section
variable {F : Nat → Prop} {w : World} {q : Nat} {A A' : Wd} {n code : Int}
def FmP (F : Nat → Prop) (w : World) (q : Nat) (A' : Wd) (code : Int) (e : Ending) (w' : World) : Prop := e = .returned (.int .i64 code) ∧ Bec F w (FmT q A') w'
set_option maxRecDepth 100000 in
set_option maxHeartbeats 8000000 in
theorem rmake_any (h : (FmT q A).In F w) (hd : MakeD A n code A') : Calls Try.prog 26 #[.pointer (some ⟨q, 0, none⟩), .int .i64 n] w (FmP F w q A' code) := by
  have HR : Hid (Bec F w (FmT q A) w) := Bec.refl h
  obtain ⟨⟨v, T⟩, hT, h⟩ := h
  simp only at h hT HR
  rcases hd with ⟨h1, rfl, rfl⟩ | ⟨h1, h2, rfl, rfl⟩ | ⟨h1, h2, rfl, rfl⟩
  · clear h hT
    by_cases h0 : n < 1
    · go_enter Try.func26, Try.ntmps26
      go_wp2
      go_ret
      exact ⟨rfl, HR.out⟩
    · have h3 : 255 < n := by unfold okN at h1; omega
      go_enter Try.func26, Try.ntmps26
      go_wp2
      go_ret
      exact ⟨rfl, HR.out⟩
  · obtain ⟨s, hs⟩ := Option.ne_none_iff_exists'.1 h2
    obtain ⟨i, hi, hin, -⟩ := lk_mem (T := T) (by rw [hT.eq]; exact hs)
    have hf := rfind_yes (FmX.box h) (FmX.row h) hT.few hT.nod hi hin
    have ha : ¬ n < 1 := by have := h1.1; omega
    have hb : ¬ 255 < n := by have := h1.2; omega
    clear h hT h1 h2 hs hi hin
    go_enter Try.func26, Try.ntmps26
    go_wp2_with fail
    refine hf.mono ?_
    rintro e w1 ⟨rfl, hw⟩
    obtain rfl := hw.symm
    clear hw
    have hp : (0 : Int) ≤ (i : Int) := by omega
    go_wp2
    go_ret
    exact ⟨rfl, HR.out⟩
  · have hf := rfind_no (FmX.box h) (FmX.row h) hT.few (by rw [hT.eq]; exact h2)
    have ha : ¬ n < 1 := by have := h1.1; omega
    have hb : ¬ 255 < n := by have := h1.2; omega
    obtain ⟨csP, hP⟩ := run_makeA APg.kin rAPg.zone 4096 (by unfold maxLen; omega) (by decide)
    obtain ⟨csW, hW⟩ := run_makeA rW8.kin rW8.zone 4096 (by unfold maxLen; omega) (by decide)
    have mP : ∀ w, (Instr.makeSlice 56 (.int .i64 4096) (.int .i64 4096)).run Try.prog w = .ok (.slice (some ⟨w.heap.size, 0, none⟩) 4096 4096) (w.alloc (.cells csP 72)) := fun w => (hP w).1
    have mW : ∀ w, (Instr.makeSlice 57 (.int .i64 4096) (.int .i64 4096)).run Try.prog w = .ok (.slice (some ⟨w.heap.size, 0, none⟩) 4096 4096) (w.alloc (.cells csW 77)) := fun w => (hW w).1
    have c0 : w.cell? ⟨q, 0, none⟩ = some v := by rw [(FmX.box h).cell]; rfl
    have lq := (FmX.box h).lt
    have HD : Below w.heap.size w w.drew := (Below.refl _ _).drew
    have HA0 : (∃ v' w4, PushP F w (((w.drew.alloc (.cells csP 72)).alloc (.cells csW 77)).alloc (.cells #[.int .i64 n, .slice (some ⟨w.heap.size, 0, none⟩) 4096 4096, .slice (some ⟨w.heap.size + 1, 0, none⟩) 4096 4096] 59)) q v T (A.set n (some newS)) (w.heap.size + 1 + 1) v' w4) := by
      have k1 := ((Bec.refl h).below HD).new (row_new (hP w.drew).2 (new_below _ _))
      have k2 := k1.new (row_new (hW (w.drew.alloc (.cells csP 72))).2 (new_below _ _))
      rw [← pages_new, ← words_new] at k2
      have k3 := k2.imp (Th.le.trans (and_left _ _ _) (and_assoc' _ _ _))
      have := fm_push (x := ⟨n, w.heap.size, 4096, w.heap.size + 1, 4096⟩) (s := newS) (by simpa [spT, SpV.vp, SpV.vw, rAPg, rW8] using k3) hT h1 newS_ok h2
      simpa [SpV.vp, SpV.vw] using this
    have HB0 : (∃ v' w4, PushP F w (((w.drew.alloc (.cells csW 77)).alloc (.cells csP 72)).alloc (.cells #[.int .i64 n, .slice (some ⟨w.heap.size + 1, 0, none⟩) 4096 4096, .slice (some ⟨w.heap.size, 0, none⟩) 4096 4096] 59)) q v T (A.set n (some newS)) (w.heap.size + 1 + 1) v' w4) := by
      have k1 := ((Bec.refl h).below HD).new (row_new (hW w.drew).2 (new_below _ _))
      have k2 := k1.new (row_new (hP (w.drew.alloc (.cells csW 77))).2 (new_below _ _))
      rw [← pages_new, ← words_new] at k2
      have k3 := k2.imp (and_assoc' _ _ _)
      have := fm_push (x := ⟨n, w.heap.size + 1, 4096, w.heap.size, 4096⟩) (s := newS) (by simpa [spT, SpV.vp, SpV.vw, rAPg, rW8] using k3) hT h1 newS_ok h2
      simpa [SpV.vp, SpV.vw] using this
    have HA : Hid _ := HA0
    have HB : Hid _ := HB0
    clear HA0 HB0
    have KEEP : Hid (∀ w', Below w.heap.size w w' → w'.cell? ⟨q, 0, none⟩ = some v) := fun w' hb' => (hb'.cell lq).trans c0
    clear h hT h1 h2 hP hW HR HD
    obtain ⟨vP, wP, hPP⟩ := HA.out
    obtain ⟨vW, wW, hWW⟩ := HB.out
    have HPP : Hid _ := hPP
    have HWW : Hid _ := hWW
    obtain ⟨aoP, nP, cP, eP⟩ := hPP.form
    obtain ⟨aoW, nW, cW, eW⟩ := hWW.form
    have rP := hPP.run
    have rW := hWW.run
    have xP := hPP.cell
    have xW := hWW.cell
    have fP := hPP.frz
    have fW := hWW.frz
    subst eP
    subst eW
    clear hPP hWW HA HB
    go_enter Try.func26, Try.ntmps26
    go_wp2_with fail
    refine hf.mono ?_
    rintro e w1 ⟨rfl, hw⟩
    obtain rfl := hw.symm
    clear hw
    go_wp2_with fail
    refine wp_region_X (fun w' => w'.cell? ⟨q, 0, none⟩ = some v) [13] (by kernel_rfl) ?_
    have hHeld : w.drew.cell? ⟨q, 0, none⟩ = some v := c0
    refine wpAnyX_take (i := 0) (v := ?v0) rfl (by kernel_rfl) (by kernel_rfl) (by kernel_rfl) (by kernel_rfl) (by kernel_rfl) (fun _ _ _ h => h) (Or.inl ⟨by rfl, ?hy0⟩) hHeld ?rest0
    case hy0 => intro w hSw; (try dsimp only at hSw); go_simp; try with_reducible rfl
    case rest0 =>
    simp only [Act.put, List.setIfInBounds_toArray, List.set_cons_zero, List.set_cons_succ, List.getElem_toArray, List.getElem_cons_zero]
    refine wpAnyX_take (i := 1) (v := ?v1) rfl (by kernel_rfl) (by kernel_rfl) (by kernel_rfl) (by kernel_rfl) (by kernel_rfl) (fun _ _ _ h => h) (Or.inl ⟨by rfl, ?hy1⟩) hHeld ?rest1
    case hy1 => intro w hSw; (try dsimp only at hSw); go_simp; try with_reducible rfl
    case rest1 =>
    simp only [Act.put, List.setIfInBounds_toArray, List.set_cons_zero, List.set_cons_succ, List.getElem_toArray, List.getElem_cons_zero, List.getElem_cons_succ]
    refine wpAnyX_take (i := 2) (v := ?v2) rfl (by kernel_rfl) (by kernel_rfl) (by kernel_rfl) (by kernel_rfl) (by kernel_rfl) (fun _ _ _ h => h) (Or.inl ⟨by rfl, ?hy2⟩) hHeld ?rest2
    case hy2 => intro w hSw; (try dsimp only at hSw); go_simp; try with_reducible rfl
    case rest2 =>
    simp only [Act.put, List.setIfInBounds_toArray, List.set_cons_zero, List.set_cons_succ, List.getElem_toArray, List.getElem_cons_zero, List.getElem_cons_succ]
    refine wpAnyX_take (i := 3) (v := ?v3) rfl (by kernel_rfl) (by kernel_rfl) (by kernel_rfl) (by kernel_rfl) (by kernel_rfl) (fun _ _ _ h => h) (Or.inl ⟨by rfl, ?hy3⟩) hHeld ?rest3
    case hy3 => intro w hSw; (try dsimp only at hSw); go_simp; try with_reducible rfl
    case rest3 =>
    simp only [Act.put, List.setIfInBounds_toArray, List.set_cons_zero, List.set_cons_succ, List.getElem_toArray, List.getElem_cons_zero, List.getElem_cons_succ]
    refine wpAnyX_take (i := 4) (v := ?v4) rfl (by kernel_rfl) (by kernel_rfl) (by kernel_rfl) (by kernel_rfl) (by kernel_rfl) (fun _ _ _ h => h) (Or.inl ⟨by rfl, ?hy4⟩) hHeld ?rest4
    case hy4 => intro w hSw; (try dsimp only at hSw); go_simp; try with_reducible rfl
    case rest4 =>
    simp only [Act.put, List.setIfInBounds_toArray, List.set_cons_zero, List.set_cons_succ, List.getElem_toArray, List.getElem_cons_zero, List.getElem_cons_succ]
    refine wpAnyX_take (i := 5) (v := ?v5) rfl (by kernel_rfl) (by kernel_rfl) (by kernel_rfl) (by kernel_rfl) (by kernel_rfl) (fun _ _ _ h => h) (Or.inl ⟨by rfl, ?hy5⟩) hHeld ?rest5
    case hy5 => intro w hSw; (try dsimp only at hSw); go_simp; try with_reducible rfl
    case rest5 =>
    simp only [Act.put, List.setIfInBounds_toArray, List.set_cons_zero, List.set_cons_succ, List.getElem_toArray, List.getElem_cons_zero, List.getElem_cons_succ]
    refine wpAnyX_two (i := 6) (j := 7) (by kernel_rfl) rfl rfl (fun K hK => ?_) (fun K hK => ?_)
    · go_simp
      refine hK.out _ _ (KEEP.out _ ((Below.refl _ _).drew.alloc (Nat.le_refl _) _)) ?_
      clear hK K hHeld
      refine wpAnyX_one (i := 7) (by kernel_rfl) rfl (fun K hK => ?_)
      go_simp
      have hHeld : ((w.drew.alloc (.cells csP 72)).alloc (.cells csW 77)).cell? ⟨q, 0, none⟩ = some v := KEEP.out _ (((Below.refl _ _).drew.alloc (Nat.le_refl _) _).alloc (by simp) _)
      refine hK.out _ _ hHeld ?_
      clear hK K
      refine wpAnyX_take (i := 8) (v := ?v8) rfl (by kernel_rfl) (by kernel_rfl) (by kernel_rfl) (by kernel_rfl) (by kernel_rfl) (fun _ _ _ h => h) (Or.inl ⟨by rfl, ?hy8⟩) hHeld ?rest8
      case hy8 => intro w hSw; (try dsimp only at hSw); go_simp; try with_reducible rfl
      case rest8 =>
      simp only [Act.put, List.setIfInBounds_toArray, List.set_cons_zero, List.set_cons_succ, List.getElem_toArray, List.getElem_cons_zero, List.getElem_cons_succ]
      refine wpAnyX_one (i := 9) (by kernel_rfl) rfl (fun K hK => ?_)
      go_simp
      refine hK.out _ _ (KEEP.out _ ((((Below.refl _ _).drew.alloc (Nat.le_refl _) _).alloc (by simp) _).alloc (by simp; omega) _)) ?_
      clear hK K hHeld
      refine wpAnyX_one (i := 10) (by kernel_rfl) rfl (fun K hK => ?_)
      refine step_appR rfl (.tmp 19) (.tmp 24) rfl _ _ rfl rfl rP ?_
      refine hK.out _ _ xP ?_
      clear hK K
      have hHeld := xP
      refine wpAnyX_take (i := 11) (v := ?v11) rfl (by kernel_rfl) (by kernel_rfl) (by kernel_rfl) (by kernel_rfl) (by kernel_rfl) (fun _ _ _ h => h) (Or.inl ⟨by rfl, ?hy11⟩) hHeld ?rest11
      case hy11 => intro w hSw; (try dsimp only at hSw); go_simp; try with_reducible rfl
      case rest11 =>
      simp only [Act.put, List.setIfInBounds_toArray, List.set_cons_zero, List.set_cons_succ, List.getElem_toArray, List.getElem_cons_zero, List.getElem_cons_succ]
      refine wpAnyX_take (i := 12) (v := ?v12) rfl (by kernel_rfl) (by kernel_rfl) (by kernel_rfl) (by kernel_rfl) (by kernel_rfl) (fun _ _ _ h => h) (Or.inl ⟨by rfl, ?hy12⟩) hHeld ?rest12
      case hy12 => intro w hSw; (try dsimp only at hSw); go_simp; try with_reducible rfl
      case rest12 =>
      simp only [Act.put, List.setIfInBounds_toArray, List.set_cons_zero, List.set_cons_succ, List.getElem_toArray, List.getElem_cons_zero, List.getElem_cons_succ]
      refine wpAnyX_last (i := 13) (by kernel_rfl) rfl (by kernel_rfl) (fun K hK => ?_)
      go_simp
      refine hK.out _ _ ?_
      clear hK K hHeld
      refine wpAnyX_done (by kernel_rfl) ?_ _
      go_wp2
      go_ret
      exact ⟨rfl, HPP.out.bec⟩
    · go_simp
      refine hK.out _ _ (KEEP.out _ ((Below.refl _ _).drew.alloc (Nat.le_refl _) _)) ?_
      clear hK K hHeld
      refine wpAnyX_one (i := 6) (by kernel_rfl) rfl (fun K hK => ?_)
      go_simp
      have hHeld : ((w.drew.alloc (.cells csW 77)).alloc (.cells csP 72)).cell? ⟨q, 0, none⟩ = some v := KEEP.out _ (((Below.refl _ _).drew.alloc (Nat.le_refl _) _).alloc (by simp) _)
      refine hK.out _ _ hHeld ?_
      clear hK K
      refine wpAnyX_take (i := 8) (v := ?v8b) rfl (by kernel_rfl) (by kernel_rfl) (by kernel_rfl) (by kernel_rfl) (by kernel_rfl) (fun _ _ _ h => h) (Or.inl ⟨by rfl, ?hy8b⟩) hHeld ?rest8b
      case hy8b => intro w hSw; (try dsimp only at hSw); go_simp; try with_reducible rfl
      case rest8b =>
      simp only [Act.put, List.setIfInBounds_toArray, List.set_cons_zero, List.set_cons_succ, List.getElem_toArray, List.getElem_cons_zero, List.getElem_cons_succ]
      refine wpAnyX_one (i := 9) (by kernel_rfl) rfl (fun K hK => ?_)
      go_simp
      refine hK.out _ _ (KEEP.out _ ((((Below.refl _ _).drew.alloc (Nat.le_refl _) _).alloc (by simp) _).alloc (by simp; omega) _)) ?_
      clear hK K hHeld
      refine wpAnyX_one (i := 10) (by kernel_rfl) rfl (fun K hK => ?_)
      refine step_appR rfl (.tmp 19) (.tmp 24) rfl _ _ rfl rfl rW ?_
      refine hK.out _ _ xW ?_
      clear hK K
      have hHeld := xW
      refine wpAnyX_take (i := 11) (v := ?v11b) rfl (by kernel_rfl) (by kernel_rfl) (by kernel_rfl) (by kernel_rfl) (by kernel_rfl) (fun _ _ _ h => h) (Or.inl ⟨by rfl, ?hy11b⟩) hHeld ?rest11b
      case hy11b => intro w hSw; (try dsimp only at hSw); go_simp; try with_reducible rfl
      case rest11b =>
      simp only [Act.put, List.setIfInBounds_toArray, List.set_cons_zero, List.set_cons_succ, List.getElem_toArray, List.getElem_cons_zero, List.getElem_cons_succ]
      refine wpAnyX_take (i := 12) (v := ?v12b) rfl (by kernel_rfl) (by kernel_rfl) (by kernel_rfl) (by kernel_rfl) (by kernel_rfl) (fun _ _ _ h => h) (Or.inl ⟨by rfl, ?hy12b⟩) hHeld ?rest12b
      case hy12b => intro w hSw; (try dsimp only at hSw); go_simp; try with_reducible rfl
      case rest12b =>
      simp only [Act.put, List.setIfInBounds_toArray, List.set_cons_zero, List.set_cons_succ, List.getElem_toArray, List.getElem_cons_zero, List.getElem_cons_succ]
      refine wpAnyX_last (i := 13) (by kernel_rfl) rfl (by kernel_rfl) (fun K hK => ?_)
      go_simp
      refine hK.out _ _ ?_
      clear hK K hHeld
      refine wpAnyX_done (by kernel_rfl) ?_ _
      go_wp2
      go_ret
      exact ⟨rfl, HWW.out.bec⟩
end
end Go.Proofs.Ytoimmapdkapheaa
