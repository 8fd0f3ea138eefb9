/- What becomes of pages under Map, Unmap, Protect, Advise. -/
import Derived.Test.YtoimmapdkapheaaFFk
namespace Go.Proofs.Ytoimmapdkapheaa
set_option maxRecDepth 4000
open Go.RowKit

section
variable {G : Nat → Prop} {w W w1 w' : World} {g wb : Nat} {v v' : Value} {M M' : List AAr} {l l' : Wds} {s : Sp} {a b : Int}
theorem mp_keep {P : Program} {α β : Type} {K : Mk P α β} {l l' : List (α × β)} {b : Nat} (h : (Th.mp K b l).In G w) (h' : Mp K w' b l') (hk : Keeps w w' (fun c => c = b)) : Bec G w (.mp K b l') w' :=
  ⟨G, fun _ h => Or.inl h, ⟨h.1, h'⟩, hk.mono fun c _ e => (h.1 c).2 e⟩
theorem pg_put (h : (PgX g ⟨v, M, wb, l⟩).In G w) (hb : Below w.heap.size w w1) (hr : Row rAAr w.heap.size w1 v' M') : Bec G w (PgX g ⟨v', M', wb, l⟩) (w1.setCell ⟨g, 0, none⟩ v') := by
  have k1 := ((Bec.refl h).new (row_new hr hb)).imp (and_left _ _ _)
  obtain ⟨A, k2, k3⟩ := k1.open
  have k4 := k3 (box_put k2 0 v')
  exact ((k4.imp (and_mono (Th.le.refl _) (and_left _ _ _))).imp (and_left _ _ _)).right
theorem pg_forget (h : (PgX g ⟨v, M, wb, l⟩).In G w) (hm : Mp wordM w' wb l') (hk : Keeps w w' (fun c => c = wb)) : Bec G w (PgX g ⟨v, M, wb, l'⟩) w' := by
  have k1 := (Bec.refl h).imp (Th.le.trans (and_mono (Th.le.refl _) (and_comm _ _)) (and_left _ _ _))
  obtain ⟨A, k2, k3⟩ := k1.open
  exact (k3 (mp_keep k2 hm hk)).imp (Th.le.trans (and_left _ _ _) (and_mono (Th.le.refl _) (and_comm _ _)))
theorem fits_lay {t : Option Pg} (hf : (PgL.mk v M wb l).fits s) (hS : SpanA a b) (hM : CanA (layA s.f a b t) M') (h4 : M'.length ≤ 64) : (PgL.mk v' M' wb (keepW a b l)).fits ⟨layA s.f a b t, wdZ s.wd a b⟩ := by
  refine ⟨layS_ok hf.ok hS hM h4, hM, h4, fun k hk hn j hj => ?_⟩
  show wdOf (keepW a b l) k j = wdZ s.wd a b k j
  unfold wdOf wdZ
  rw [keepW_get]
  by_cases c : a ≤ (k : Int) ∧ (k : Int) < b
  · rw [if_pos (show gonB a b k = true by simp [gonB, c.1, c.2]), if_pos c]
    rfl
  · rw [if_neg (show ¬ gonB a b k = true by simp [gonB]; omega), if_neg c]
    have hn' : s.f k ≠ none := by rwa [show (Sp.mk (layA s.f a b t) (wdZ s.wd a b)).f k = layA s.f a b t k from rfl, layA_out c] at hn
    exact hf.wds k hk hn' j hj
theorem fits_map {t : Pg → Pg} (hf : (PgL.mk v M wb l).fits s) (hM : CanA (mapA s.f a b t) M') (h4 : M'.length ≤ 64) : (PgL.mk v' M' wb l).fits ⟨mapA s.f a b t, s.wd⟩ := by
  refine ⟨mapS_ok hf.ok hM h4, hM, h4, fun k hk hn j hj => hf.wds k hk (fun e => hn ?_) j hj⟩
  show mapA s.f a b t k = none
  unfold mapA
  rw [e]
  split <;> rfl
theorem fits_may (hf : (PgL.mk v M wb l).fits s) : MayA M := ⟨hf.few, hf.can.1⟩
theorem fits_own (hf : (PgL.mk v M wb l).fits s) (p : Int) : ownA M p = s.f p := by
  by_cases h : 0 ≤ p ∧ p < 4096
  · exact hf.can.2 p h.1 h.2
  · rw [hf.ok.out p (by omega), nrm_own hf.can.1 (by omega)]
theorem lay_r {t : Option Pg} {r : Except Int (List AAr)} (hf : (PgL.mk v M wb l).fits s) (h : LayS M a b (layA (ownA M) a b t) r) :
    (¬ SpanA a b → r = .error 1) ∧ ∀ M', SpanA a b → CanA (layA s.f a b t) M' → r = fitR M' := by
  refine ⟨fun hn => h.elim (fun k => k.2) fun k => absurd k.1.2 hn, fun M' hS hM => ?_⟩
  rcases h with ⟨h, _⟩ | ⟨_, h⟩
  · exact absurd ⟨fits_may hf, hS⟩ h
  · have e : layA (ownA M) a b t = layA s.f a b t := by
      funext p
      unfold layA
      rw [fits_own hf]
    rw [e] at h
    exact h.uniq (fit_s hM)
theorem each_r {t : Pg → Pg} {r : Except Int (List AAr)} (hf : (PgL.mk v M wb l).fits s) (h : EachS M a b t r) :
    (¬ SpanA a b → r = .error 1) ∧ (SpanA a b → (∃ p, a ≤ p ∧ p < b ∧ s.f p = none) → r = .error 3) ∧ ∀ M', SpanA a b → (∀ p, a ≤ p → p < b → s.f p ≠ none) → CanA (mapA s.f a b t) M' → r = fitR M' := by
  refine ⟨fun hn => h.elim (fun k => k.2) fun k => k.elim (fun k => absurd k.1.2 hn) fun k => absurd k.1.2 hn, fun hS hp => ?_, fun M' hS hp hM => ?_⟩
  · rcases h with ⟨h, _⟩ | ⟨_, _, h⟩ | ⟨_, h, _⟩
    · exact absurd ⟨fits_may hf, hS⟩ h
    · exact h
    · obtain ⟨p, p1, p2, p3⟩ := hp
      exact absurd ((fits_own hf p).trans p3) (h p p1 p2)
  · rcases h with ⟨h, _⟩ | ⟨_, ⟨p, p1, p2, p3⟩, _⟩ | ⟨_, _, h⟩
    · exact absurd ⟨fits_may hf, hS⟩ h
    · exact absurd ((fits_own hf p).symm.trans p3) (hp p p1 p2)
    · have e : mapA (ownA M) a b t = mapA s.f a b t := by
        funext p
        unfold mapA
        rw [fits_own hf]
      rw [e] at h
      exact h.uniq (fit_s hM)
theorem fitR_le (h : M.length ≤ 64) : fitR M = .ok M := if_pos h
theorem fitR_gt (h : 64 < M.length) : fitR M = .error 5 := if_neg (by omega)
/-- Behind a call of layer 9: what 'become' will leave. -/
def BcOk (G : Nat → Prop) (w : World) (g wb : Nat) (v : Value) (l : Wds) (M' : List AAr) (S : World → Prop) (e : Ending) (w1 : World) : Prop :=
  ∃ ao n c, e = .returned (.tuple #[.slice ao n c, .nilIface]) ∧ S w1 ∧ Hid (Laid w1 g 85 (pgC v wb)) ∧ Hid (Bec G w (PgX g ⟨.slice ao n c, M', wb, l⟩) (w1.setCell ⟨g, 0, none⟩ (.slice ao n c)))
def BcNo (w : World) (k : Int) (S : World → Prop) (e : Ending) (w1 : World) : Prop := e = .returned (.tuple #[.slice none 0 0, .iface 48 (.int .i64 k)]) ∧ S w1 ∧ Hid (Below w.heap.size w w1)
theorem bc_ok {e : Ending} {S : World → Prop} (h : (PgX g ⟨v, M, wb, l⟩).In G w) (hb : Below w.heap.size w W) (hS : ∀ w', Below w.heap.size w w' → S w') (ht : TellW W (.ok M') e w1) : BcOk G w g wb v l M' S e w1 := by
  obtain ⟨ao, c, rfl, hr, hb1⟩ := ht
  have hB := below_call' hb hb1.out
  exact ⟨ao, M'.length, c, rfl, hS w1 hB, (pgx_in h).1.below hB, pg_put h hB (hr.out.lower hb.size)⟩
theorem bc_no {e : Ending} {k : Int} {S : World → Prop} (hb : Below w.heap.size w W) (hS : ∀ w', Below w.heap.size w w' → S w') (ht : TellW W (.error k) e w1) : BcNo w k S e w1 := ⟨ht.1, hS w1 (below_call' hb ht.2.out), below_call' hb ht.2.out⟩
end
end Go.Proofs.Ytoimmapdkapheaa
