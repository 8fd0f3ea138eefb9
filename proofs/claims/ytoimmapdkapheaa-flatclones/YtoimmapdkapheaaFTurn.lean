/- A space of the document's turned: its pages, its words; fits. -/
import Derived.Test.YtoimmapdkapheaaFREnd
import Derived.Test.YtoimmapdkapheaaAChr
import Derived.Test.YtoimmapdkapheaaARgb
namespace Go.Proofs.Ytoimmapdkapheaa
set_option maxRecDepth 4000
open Go.RowKit

theorem set_at (A B : Sps) (x y : SpV × Sp) : (A ++ x :: B).set A.length y = A ++ y :: B := by simp
theorem set_split {T : Sps} {i : Nat} (hi : i < T.length) (y : SpV × Sp) : ∃ A B, T = A ++ T.getD i zT :: B ∧ T.set i y = A ++ y :: B := by
  obtain ⟨A, B, e, el⟩ := all_at T i hi
  refine ⟨A, B, e, ?_⟩
  have := set_at A B (T.getD i zT) y
  rw [el] at this
  rw [← this]
  exact congrArg (fun l : Sps => l.set i y) e
theorem fm_put (q : Nat) (v : Value) (A B : Sps) (x : SpV × Sp) (T : Sps) (hT : T = A ++ x :: B) :
    ((spT x).and ((Th.box q 29 #[v]).and ((Th.row rSp v (heads T)).and (Th.all (spTs (A ++ B)))))).le (FmX q v T) := fun {F w} h => by
  refine Th.le.trans (and_left _ _ _) (and_mono (Th.le.refl _) (Th.le.trans (and_left _ _ _) (and_mono (Th.le.refl _) ?_))) h
  rw [hT]
  simp only [spTs, List.map_append, List.map_cons]
  exact all_put _ _ _
theorem row_keep {α : Type} {R : Rec α} {F : Nat → Prop} {w w' : World} {g n c : Nat} {l l' : List α} (h : (Th.row R (.slice (some ⟨g, 0, none⟩) n c) l).In F w) (hr : Row R 0 w' (.slice (some ⟨g, 0, none⟩) n c) l') (hk : Keeps w w' (fun x => x = g)) : Bec F w (.row R (.slice (some ⟨g, 0, none⟩) n c) l') w' :=
  ⟨F, fun _ h => Or.inl h, ⟨h.1, hr⟩, hk.mono fun c _ e => (h.1 c).2 (by rw [e]; rfl)⟩
section
variable {F : Nat → Prop} {w W W' : World} {q : Nat} {v : Value} {T : Sps} {i : Nat}
/-- Its words turned. -/
theorem fm_words (h : Bec F w (FmX q v T) W) (hi : i < T.length) {wd' : Nat → Nat → Nat} (hr : Row rW8 0 W' (T.getD i zT).1.vw (wordsA wd')) (hk : Keeps W W' (fun x => x = (T.getD i zT).1.gw)) :
    Bec F w (FmX q v (T.set i ((T.getD i zT).1, ⟨(T.getD i zT).2.f, wd'⟩))) W' := by
  obtain ⟨A, B, e1, e2⟩ := set_split hi ((T.getD i zT).1, (⟨(T.getD i zT).2.f, wd'⟩ : Sp))
  have k1 := h.imp (Th.le.trans (fm_pick q v A B _ T e1) (Th.le.trans (and_assoc _ _ _) (and_left _ _ _)))
  obtain ⟨G, k2, k3⟩ := k1.open
  have k4 := (k3 (row_keep k2 hr hk)).imp (Th.le.trans (and_left _ _ _) (and_assoc' _ _ _))
  have hh : heads T = heads (T.set i ((T.getD i zT).1, ⟨(T.getD i zT).2.f, wd'⟩)) := by
    rw [e2]
    conv => lhs; rw [e1]
    simp [heads]
  rw [hh] at k4
  exact k4.imp (fm_put q v A B ((T.getD i zT).1, ⟨(T.getD i zT).2.f, wd'⟩) _ e2)
/-- Its pages turned: a new row of them. -/
theorem fm_pages {g c gp cp : Nat} {f' : Int → Option Pg} (h : Bec F w ((Th.row rAPg (.slice (some ⟨gp, 0, none⟩) 4096 cp) (pagesA f')).and (FmX q (.slice (some ⟨g, 0, none⟩) T.length c) T)) W) (hi : i < T.length) :
    Bec F w (FmX q (.slice (some ⟨g, 0, none⟩) T.length c) (T.set i ({ (T.getD i zT).1 with gp := gp, cp := cp }, ⟨f', (T.getD i zT).2.wd⟩))) (W.setCell ⟨g, i * 3 + 1, none⟩ (.slice (some ⟨gp, 0, none⟩) 4096 cp)) := by
  obtain ⟨A, B, e1, e2⟩ := set_split hi ({ (T.getD i zT).1 with gp := gp, cp := cp }, (⟨f', (T.getD i zT).2.wd⟩ : Sp))
  -- the heads' row in front
  have k1 := h.imp (Th.le.trans (and_mono (Th.le.refl _) (fm_pick q _ A B _ T e1)) (Th.le.trans (and_mono (Th.le.refl _) (Th.le.trans (and_mono (Th.le.refl _) (and_left _ _ _)) (and_left _ _ _))) (and_left _ _ _)))
  obtain ⟨G, k2, k3⟩ := k1.open
  have hrow := k2.2
  have hx := hrow.put1 i 1 (.slice (some ⟨gp, 0, none⟩) 4096 cp) { (T.getD i zT).1 with gp := gp, cp := cp } (by rw [heads_len]; exact hi) (by decide) (by
    rw [show (heads T).getD i rSp.zero = (T.getD i zT).1 from heads_get T hi]
    rfl)
  have k4 := k3 (row_keep k2 hx (Keeps.set W g _ _))
  have hh : (heads T).set i { (T.getD i zT).1 with gp := gp, cp := cp } = heads (T.set i ({ (T.getD i zT).1 with gp := gp, cp := cp }, ⟨f', (T.getD i zT).2.wd⟩)) := by
    unfold heads
    rw [List.map_set]
  rw [hh] at k4
  -- row' ∗ (rowP' ∗ (spT ∗ (box ∗ rest)))
  have k5 := k4.imp (Th.le.trans (and_mono (Th.le.refl _) (Th.le.trans (and_mono (Th.le.refl _) (and_assoc _ _ _)) (and_left _ _ _))) (and_left _ _ _))
  have k6 := k5.right
  exact k6.imp (Th.le.trans (and_left _ _ _) (Th.le.trans (and_mono (Th.le.refl _) (Th.le.trans (and_left _ _ _) (and_mono (Th.le.refl _) (and_left _ _ _)))) (Th.le.trans (and_assoc' _ _ _) (fm_put q _ A B ({ (T.getD i zT).1 with gp := gp, cp := cp }, ⟨f', (T.getD i zT).2.wd⟩) _ e2))))
theorem set_ok {A : Wd} (hT : FmOk T A) (hi : i < T.length) {y : SpV × Sp} (hy : y.1.n = (T.getD i zT).1.n) (hs : y.2.ok) : FmOk (T.set i y) (A.set y.1.n (some y.2)) := by
  have e := lk_at T hT.nod i hi
  rw [hT.eq] at e
  refine ⟨by rw [lk_set T hT.nod i hi y hy, hT.eq], hT.ok.set (by rw [hy]; exact (hT.ok _ _ e).1) hs, fun a b ha hb h => ?_⟩
  rw [List.length_set] at ha hb
  have key : ∀ k, k < T.length → ((T.set i y).getD k zT).1.n = (T.getD k zT).1.n := fun k hk => by
    simp only [List.getD_eq_getElem?_getD]
    by_cases c : i = k
    · subst c
      rw [List.getElem?_set_self hk, Option.getD_some, hy, List.getD_eq_getElem?_getD]
    · rw [List.getElem?_set_ne c]
  rw [key a ha, key b hb] at h
  exact hT.nod a b ha hb h
end
/-- What fits tells. -/
def FitP (w : World) (g i gp cp : Nat) (M : List AAr) (e : Ending) (w' : World) : Prop :=
  (64 < M.length ∧ e = .returned (.int .i64 5) ∧ Below w.heap.size w w') ∨ (M.length ≤ 64 ∧ e = .returned (.int .i64 0) ∧ ∃ w1, Below w.heap.size w w1 ∧ w' = w1.setCell ⟨g, i * 3 + 1, none⟩ (.slice (some ⟨gp, 0, none⟩) 4096 cp))
set_option maxRecDepth 100000 in
set_option maxHeartbeats 4000000 in
theorem fits_any {w : World} {q g len c i gp cp : Nat} {u : Value} {f : Int → Option Pg} {M : List AAr} (hq : Laid w q 29 #[.slice (some ⟨g, 0, none⟩) len c]) (hi : i < len) (_ : len ≤ 255) (hu : w.cell? ⟨g, i * 3 + 1, none⟩ = some u) (hz : w.frozen? ⟨g, i * 3 + 1, none⟩ = false) (hg : g < w.heap.size) (hp : Sn rAPg w (some ⟨gp, 0, none⟩) (pagesA f)) (hM : CanA f M) :
    Calls Try.prog 50 #[.pointer (some ⟨q, 0, none⟩), .int .i64 i, .slice (some ⟨gp, 0, none⟩) 4096 cp] w (FitP w g i gp cp M) := by
  have hto := to_any (c := cp) hp hM
  have c0 : w.cell? ⟨q, 0, none⟩ = some (.slice (some ⟨g, 0, none⟩) len c) := by rw [hq.cell]; rfl
  have lq := hq.lt
  have hil : (i : Int) < (len : Int) := by omega
  clear hp hM hq
  by_cases h64 : M.length ≤ 64
  · have e64 : decide (M.length ≤ 64) = true := by simpa using h64
    rw [e64] at hto
    have H64 : Hid (M.length ≤ 64) := h64
    clear h64 e64
    go_enter Try.func50, Try.ntmps50
    go_wp2_with fail
    refine hto.mono ?_
    rintro e w1 ⟨v1, rfl, hrow, hb⟩
    obtain ⟨ao, k, rfl⟩ := hrow.form
    have x0 : w1.cell? ⟨q, 0, none⟩ = some (.slice (some ⟨g, 0, none⟩) len c) := (hb.cell lq).trans c0
    have x1 : w1.cell? ⟨g, i * 3 + 1, none⟩ = some u := (hb.cell hg).trans hu
    have x2 : w1.frozen? ⟨g, i * 3 + 1, none⟩ = false := (hb.frozen hg).trans hz
    have HB : Hid (Below w.heap.size w w1) := hb
    clear hrow hb hto c0 hu hz lq hg
    go_wp2
    go_ret
    exact Or.inr ⟨H64.out, rfl, w1, HB.out, rfl⟩
  · have e64 : decide (M.length ≤ 64) = false := by simpa using h64
    rw [e64] at hto
    have H64 : Hid (64 < M.length) := Nat.lt_of_not_le h64
    clear h64 e64
    go_enter Try.func50, Try.ntmps50
    go_wp2_with fail
    refine hto.mono ?_
    rintro e w1 ⟨v1, rfl, hrow, hb⟩
    obtain ⟨ao, k, rfl⟩ := hrow.form
    have HB : Hid (Below w.heap.size w w1) := hb
    clear hrow hb hto c0 hu hz lq hg
    go_wp2
    go_ret
    exact Or.inl ⟨H64.out, rfl, HB.out⟩
end Go.Proofs.Ytoimmapdkapheaa
