/- Store, Run, Areas. -/
import Derived.Test.YtoimmapdkapheaaFFind
namespace Go.Proofs.Ytoimmapdkapheaa
set_option maxRecDepth 4000
open Go.RowKit

def StoreD (A : Wd) (n pg i : Int) (v : Nat) (code : Int) (A' : Wd) : Prop :=
  (AtD A n pg i code ∧ code ≠ 0 ∧ A' = A) ∨ (∃ s t, A n = some s ∧ AtD A n pg i 0 ∧ s.f pg = some t ∧ ((t.1 = false ∧ code = 6 ∧ A' = A) ∨ (t.1 = true ∧ code = 0 ∧ A' = A.set n (some ⟨s.f, wdS s.wd pg.toNat i.toNat v⟩))))
def RunD (A : Wd) (n pg : Int) (code : Int) : Prop :=
  (AtD A n pg 0 code ∧ code ≠ 0) ∨ (∃ s t, A n = some s ∧ AtD A n pg 0 0 ∧ s.f pg = some t ∧ ((t.2.1 = false ∧ code = 6) ∨ (t.2.1 = true ∧ code = 0)))
theorem AtD.some {A : Wd} {n pg i : Int} (h : AtD A n pg i 0) : ∃ s t, A n = some s ∧ 0 ≤ i ∧ i < 8 ∧ s.f pg = some t := by
  rcases h with ⟨_, h⟩ | ⟨s, h1, ⟨_, h⟩ | ⟨_, _, _, h⟩ | ⟨h2, h3, h4, _⟩⟩
  · cases h
  · cases h
  · cases h
  · obtain ⟨t, ht⟩ := Option.ne_none_iff_exists'.1 h4
    exact ⟨s, t, h1, h2, h3, ht⟩
theorem store_ex (A : Wd) (n pg i : Int) (v : Nat) : ∃ code A', StoreD A n pg i v code A' := by
  obtain ⟨c, hc⟩ := at_ex A n pg i
  by_cases h : c = 0
  · subst h
    obtain ⟨s, t, h1, _, _, h4⟩ := hc.some
    cases e : t.1 with
    | false => exact ⟨6, A, Or.inr ⟨s, t, h1, hc, h4, Or.inl ⟨e, rfl, rfl⟩⟩⟩
    | true => exact ⟨0, _, Or.inr ⟨s, t, h1, hc, h4, Or.inr ⟨e, rfl, rfl⟩⟩⟩
  · exact ⟨c, A, Or.inl ⟨hc, h, rfl⟩⟩
theorem run_ex' (A : Wd) (n pg : Int) : ∃ code, RunD A n pg code := by
  obtain ⟨c, hc⟩ := at_ex A n pg 0
  by_cases h : c = 0
  · subst h
    obtain ⟨s, t, h1, _, _, h4⟩ := hc.some
    cases e : t.2.1 with
    | false => exact ⟨6, Or.inr ⟨s, t, h1, hc, h4, Or.inl ⟨e, rfl⟩⟩⟩
    | true => exact ⟨0, Or.inr ⟨s, t, h1, hc, h4, Or.inr ⟨e, rfl⟩⟩⟩
  · exact ⟨c, Or.inl ⟨hc, h⟩⟩
theorem StoreD.ok {A A' : Wd} {n pg i : Int} {v : Nat} {code : Int} (h : StoreD A n pg i v code A') (hA : A.ok) (hv : v < 18446744073709551616) : A'.ok := by
  rcases h with ⟨_, _, rfl⟩ | ⟨s, t, h1, _, _, ⟨_, _, rfl⟩ | ⟨_, _, rfl⟩⟩
  · exact hA
  · exact hA
  · exact hA.set (hA n s h1).1 (store_ok (hA n s h1).2 _ _ hv)
/-- A word of a page turned. -/
def setW (x : Nat → Nat) (j v : Nat) (q : Nat) : Nat := if q = j then v else x q
theorem fits_store {v : Value} {M : List AAr} {wb : Nat} {l : Wds} {s : Sp} (hf : (PgL.mk v M wb l).fits s) (k j u : Nat) (hu : u < 18446744073709551616) : (PgL.mk v M wb (putL l (k : Int) (setW (wdOf l k) j u))).fits ⟨s.f, wdS s.wd k j u⟩ := by
  refine ⟨store_ok hf.ok k j hu, hf.can, hf.few, fun q hq hn r hr => ?_⟩
  show wdOf (putL l (k : Int) (setW (wdOf l k) j u)) q r = wdS s.wd k j u q r
  have h0 := hf.wds q hq hn r hr
  simp only at h0
  unfold wdS
  by_cases e : q = k
  · subst e
    have e1 : wdOf (putL l (q : Int) (setW (wdOf l q) j u)) q = setW (wdOf l q) j u := by
      rw [show wdOf (putL l (q : Int) (setW (wdOf l q) j u)) q = (match getL (putL l (q : Int) (setW (wdOf l q) j u)) q with | some x => x | none => zw) from rfl, getL_put, if_pos rfl]
    rw [e1]
    unfold setW
    by_cases e2 : r = j
    · rw [if_pos e2, if_pos ⟨rfl, e2⟩]
    · rw [if_neg e2, if_neg (fun h => e2 h.2)]
      exact h0
  · have e1 : wdOf (putL l (k : Int) (setW (wdOf l k) j u)) q = wdOf l q := by
      unfold wdOf
      rw [getL_put, if_neg (by omega)]
    rw [e1, if_neg (fun h => e h.1)]
    exact h0
set_option maxRecDepth 100000 in
set_option maxHeartbeats 8000000 in
theorem stored_any {F : Nat → Prop} {w : World} {p : Nat} {A A' : Wd} {n pg i code : Int} {v : Nat} (h : (FlT p A).In F w) (hn : okI n) (hv : v < 18446744073709551616) (hd : StoreD A n pg i v code A') :
    Calls Try.prog 12 #[.pointer (some ⟨p, 0, none⟩), .int .i64 n, .int .i64 pg, .int .i64 i, .int .u64 v] w (FlP F w p A' code) := by
  have HR : Hid (Bec F w (FlT p A) w) := Bec.refl h
  obtain ⟨⟨m, l⟩, ⟨rfl, hok⟩, h⟩ := h
  simp only at h hok hd HR
  have hfd := ffind_any (pg := pg) (i := i) h hn
  rcases hd with ⟨hd, hc, rfl⟩ | ⟨s', t', hs', hd, ht', hd2⟩
  · rcases at_fd hd with ⟨-, e⟩ | ⟨e, -⟩
    · rw [e] at hfd
      have hev := errV_ne hc
      unfold rv at hfd
      clear h hok hd e hc
      go_enter Try.func12, Try.ntmps12
      go_wp2_with fail
      refine hfd.mono ?_
      rintro e w1 ⟨rfl, HB1⟩
      have HBE : Hid (Below w.heap.size w (w1.alloc (.cells #[.bool false, .bool false] 31))) := HB1.out.alloc HB1.out.size _
      clear hfd HB1
      go_wp2
      go_ret
      exact ⟨congrArg Ending.returned hev.symm, HR.out.below HBE.out⟩
    · exact absurd e hc
  · rcases at_fd hd with ⟨e, -⟩ | ⟨-, g, s, t, hx, hs, ht, hi0, hi8, e⟩
    · exact absurd rfl e
    · obtain rfl : s' = s := by rw [hs'] at hs; exact Option.some.inj hs
      obtain rfl : t' = t := by rw [ht'] at ht; exact Option.some.inj ht
      rw [e] at hfd
      unfold rv at hfd
      obtain ⟨tw, tx, th⟩ := t'
      simp only at hfd hd2
      rcases hd2 with ⟨rfl, rfl, rfl⟩ | ⟨rfl, rfl, rfl⟩
      · clear h hok hd e hx hs ht hs' ht'
        go_enter Try.func12, Try.ntmps12
        go_wp2_with fail
        refine hfd.mono ?_
        rintro e w1 ⟨rfl, HB1⟩
        have HBE : Hid (Below w.heap.size w (w1.alloc (.cells #[.bool false, .bool tx] 31))) := HB1.out.alloc HB1.out.size _
        clear hfd HB1
        go_wp2
        go_ret
        exact ⟨rfl, HR.out.below HBE.out⟩
      · obtain ⟨G, g1, g2⟩ := fl_open h hok hx
        obtain ⟨⟨va, M, wb, l0⟩, hf, g1⟩ := g1
        obtain ⟨k1, k2, k3⟩ := pgx_in g1
        try simp only at k1 k2 k3
        have hpg : 0 ≤ pg ∧ pg < 4096 := by
          by_cases c : 0 ≤ pg ∧ pg < 4096
          · exact c
          · have := hf.ok.out pg (by omega)
            rw [ht] at this
            cases this
        obtain ⟨k, rfl⟩ : ∃ k : Nat, pg = k := ⟨pg.toNat, by omega⟩
        obtain ⟨j, rfl⟩ : ∃ j : Nat, i = j := ⟨i.toNat, by omega⟩
        have hjlt : j < 8 := by omega
        have HG : Hid (∀ W, Below w.heap.size w W → (Instr.lookup 83 (.map (some wb)) (.int .i64 k) false).run Try.prog W = .ok (wv (wdOf l0 k)) W ∧ W.cell? ⟨g, 1, none⟩ = some (.map (some wb)) ∧ g < W.heap.size ∧
            ∃ W', (Instr.mapUpdate 83 (.map (some wb)) (.int .i64 k) (wv (setW (wdOf l0 k) j v))).run Try.prog W = .ok () W' ∧ Bec F w (FlT p ((lkP l).set n (some ⟨s'.f, wdS s'.wd k j v⟩))) W') := fun W hb => by
          have hm := k3.same (hb.block _ k3.lt)
          obtain ⟨W', r1, r2, r3⟩ := hm.store (M := wordM) (a := (k : Int)) ⟨by omega, by omega⟩ (setW (wdOf l0 k) j v)
          refine ⟨get_wd hm ⟨by omega, by omega⟩, (hb.cell k1.lt).trans (by rw [k1.cell]; rfl), Nat.lt_of_lt_of_le k1.lt hb.size, W', r1, ?_⟩
          obtain ⟨B, b1, b2⟩ := (In.below g1 hb).next
          exact g2 (store_ok hf.ok k j hv) ((b2 (pg_forget b1 r2 ((Keeps.of_grown r3.grown).mono fun c _ e => by simpa using e.symm))).imp fun {F' w''} q => ⟨_, fits_store hf k j v hv, q⟩)
        simp only [Int.toNat_natCast]
        clear h hok hd e hx hs ht hs' ht' g1 g2 hf k1 k2 k3 HR
        generalize wdOf l0 k = xw at *
        go_enter Try.func12, Try.ntmps12
        go_wp2_with fail
        refine hfd.mono ?_
        rintro e w1 ⟨rfl, HB1⟩
        have HBE : Below w.heap.size w (w1.alloc (.cells #[.bool true, .bool tx] 31)) := HB1.out.alloc HB1.out.size _
        obtain ⟨q1, q2, q2', -⟩ := HG.out _ HBE
        have q5 := fun o v => cell_alloc_old q2' o v
        obtain ⟨-, -, -, W', hrun, HF⟩ := HG.out (((w1.alloc (.cells #[.bool true, .bool tx] 31)).alloc (.cells (w8arr (setW xw j v)) 77)).drew) ((HBE.alloc HBE.size _).drew)
        have HF' : Hid _ := HF
        unfold wv w8arr at q1 hrun
        unfold setW at hrun
        clear hfd HB1 HG HBE HF q2'
        have hj : j = 0 ∨ j = 1 ∨ j = 2 ∨ j = 3 ∨ j = 4 ∨ j = 5 ∨ j = 6 ∨ j = 7 := by omega
        rcases hj with rfl | rfl | rfl | rfl | rfl | rfl | rfl | rfl
        all_goals
          simp only [Nat.reduceEqDiff, reduceIte] at hrun
          go_wp2_with fail
          go_region
          go_wp2
          go_ret
          exact ⟨rfl, HF'.out⟩
end Go.Proofs.Ytoimmapdkapheaa
