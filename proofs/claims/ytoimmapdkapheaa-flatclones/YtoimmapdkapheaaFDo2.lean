/- Run and Store done to both worlds. -/
import Derived.Test.YtoimmapdkapheaaFDo
namespace Go.Proofs.Ytoimmapdkapheaa
set_option maxRecDepth 4000
open Go.RowKit

/-- The cells on the way to a page that has something. -/
theorem page_cells {F : Nat → Prop} {w : World} {q : Nat} {v : Value} {T : Sps} (h : (FmX q v T).In F w) {i : Nat} (hi : i < T.length) {k : Nat} (hk : k < 4096) {t : Pg} (ht : (T.getD i zT).2.f k = some t) :
    ∃ g c gp cp gw cw, w.cell? ⟨q, 0, none⟩ = some (.slice (some ⟨g, 0, none⟩) T.length c) ∧ w.cell? ⟨g, i * 3 + 1, none⟩ = some (.slice (some ⟨gp, 0, none⟩) 4096 cp) ∧ w.cell? ⟨g, i * 3 + 2, none⟩ = some (.slice (some ⟨gw, 0, none⟩) 4096 cw) ∧
      w.cell? ⟨gp, k * 4 + 1, none⟩ = some (.bool t.1) ∧ w.cell? ⟨gp, k * 4 + 2, none⟩ = some (.bool t.2.1) ∧ (T.getD i zT).1.gw = gw ∧ (T.getD i zT).1.cw = cw ∧ Row rW8 0 w (.slice (some ⟨gw, 0, none⟩) 4096 cw) (wordsA (T.getD i zT).2.wd) := by
  obtain ⟨g, c, hv, hlt, hat⟩ := fm_at h hi
  obtain ⟨s1, s2⟩ := fm_see h hi
  obtain ⟨g', e', -, -, -, -, -, hat2⟩ := s1.at (show k < _ by rw [pages_len]; omega)
  cases e'
  obtain ⟨-, p1, p2, -⟩ := APg.at hat2
  rw [show rAPg.zero = APg.zero from rfl, pages_get _ (by omega), ht] at p1 p2
  exact ⟨g, c, _, _, _, _, by rw [(FmX.box h).cell, hv]; rfl, (rSp.at hat).2.1, (rSp.at hat).2.2, p1, p2, rfl, rfl, s2⟩
theorem RunD.code {A : Wd} {n p c : Int} (h : RunD A n p c) : 0 ≤ c ∧ c ≤ 8 := by
  rcases h with ⟨h, _⟩ | ⟨_, _, _, _, _, ⟨_, rfl⟩ | ⟨_, rfl⟩⟩
  · exact h.code
  · omega
  · omega
theorem StoreD.code {A A' : Wd} {n p i c : Int} {v : Nat} (h : StoreD A n p i v c A') : 0 ≤ c ∧ c ≤ 8 := by
  rcases h with ⟨h, _⟩ | ⟨_, _, _, _, _, ⟨_, rfl, _⟩ | ⟨_, rfl, _⟩⟩
  · exact h.code
  · omega
  · omega
/-- A page that has something is one. -/
theorem page_in {A : Wd} (hA : A.ok) {n : Int} {s : Sp} (hs : A n = some s) {pg : Int} {t : Pg} (ht : s.f pg = some t) : 0 ≤ pg ∧ pg < 4096 := by
  by_cases c : 0 ≤ pg ∧ pg < 4096
  · exact c
  · have := (hA n s hs).2.out pg (by omega)
    rw [ht] at this
    cases this
set_option maxRecDepth 100000 in
set_option maxHeartbeats 8000000 in
theorem do_run {F : Nat → Prop} {w : World} {p q : Nat} {A : Wd} {d : FDd} {code : Int} (h : ((FlT p A).and (FmT q A)).In F w) (hok : d.ok) (hk : pickN d.what 11 = 8) (hd : RunD A d.space d.from_ code) :
    Calls Try.prog 10 #[.pointer (some ⟨p, 0, none⟩), .pointer (some ⟨q, 0, none⟩), .agg d.arr] w (DoP F w p q A) := by
  have hcd : 0 ≤ code ∧ code ≤ 8 := RunD.code hd
  have HD : Hid (RunD A d.space d.from_ code) := hd
  have hpk := fun w => pick_any d.what 11 w hok.1.1 hok.1.2 (by omega) (by omega)
  rw [hk] at hpk
  have H0 : Hid (Bec F w (Tri w.heap.size d (FlT p A) (FmT q A)) (w.alloc (.cells d.arr 34))) := tri_new h d
  obtain ⟨F1, f1, fcl⟩ := H0.out.fl
  have hf := runp_any f1 hok.2.1 HD.out
  have hce := fun w => code_err code w hcd
  have HX : Hid (∀ w1, Below (w.alloc (.cells d.arr 34)).heap.size (w.alloc (.cells d.arr 34)) w1 → Bec F w (Tri w.heap.size d (FlT p A) (FmT q A)) w1) := fun w1 hb => H0.out.below hb
  rcases hd with ⟨hat, hc⟩ | ⟨s, t, hs, hat, ht, h2⟩
  · have hm : ∀ w1, Bec F w (Tri w.heap.size d (FlT p A) (FmT q A)) w1 → Calls Try.prog 33 #[.pointer (some ⟨q, 0, none⟩), .int .i64 d.space, .int .i64 d.from_, .int .i64 0] w1 (fun e w2 => e = .returned (.tuple #[.int .i64 0, .int .i64 code]) ∧ w2 = w1) := fun w1 hb => by
      obtain ⟨F2, ⟨⟨v, T⟩, hT, m1⟩, mcl⟩ := hb.fm
      refine (rat_any m1 hT hat).mono fun e w2 hp => ?_
      obtain ⟨rfl, ⟨_, rfl⟩ | ⟨h, _⟩⟩ := hp
      · exact ⟨rfl, rfl⟩
      · exact absurd h hc
    obtain ⟨a0, a1, a2, a3, a4, ⟨a5, a6⟩, a7, a8, a9⟩ := d
    unfold FDd.arr at *
    simp only at *
    clear f1 fcl H0 h hat HD hok hk hcd
    go_enter Try.func10, Try.ntmps10
    go_wp2_with fail
    refine (hpk _).mono ?_
    rintro e w1 ⟨rfl, hw⟩
    obtain rfl := hw.symm
    clear hw hpk
    go_wp2_with fail
    refine hf.mono ?_
    rintro e w1 ⟨rfl, hb1⟩
    have HB1 : Hid (Bec F w (Tri w.heap.size ⟨a0, a1, a2, a3, a4, ⟨a5, a6⟩, a7, a8, a9⟩ (FlT p A) (FmT q A)) w1) := HX.out _ hb1.out
    have hm1 := hm _ HB1.out
    obtain ⟨x0, x1, x2, x3, x4, x5, x6, x7, x8, x9⟩ := deed_cells HB1.out.tri_box
    clear hb1 hm hf HX
    generalize hev : errV code = ev at *
    go_wp2_with fail
    refine hm1.mono ?_
    rintro e w2 ⟨rfl, hw⟩
    obtain rfl := hw.symm
    have hc' : (code == 0) = false := by simpa using hc
    clear hw hm1 hc
    go_wp2
    go_quiet (fail)
    go_wp2_with fail
    refine (hce _).mono ?_
    rintro e w3 ⟨rfl, hw⟩
    obtain rfl := hw.symm
    clear hw hce
    go_wp2
    go_ret
    exact ⟨rfl, HB1.out.right.below (below_drewN (Below.refl _ _) _)⟩
  · have hpg := page_in (A := A) (by obtain ⟨_, ⟨_, hA⟩, _⟩ := f1; exact hA) hs ht
    have hm : ∀ w1, Bec F w (Tri w.heap.size d (FlT p A) (FmT q A)) w1 → Calls Try.prog 33 #[.pointer (some ⟨q, 0, none⟩), .int .i64 d.space, .int .i64 d.from_, .int .i64 0] w1 (fun e w2 => w2 = w1 ∧ ∃ i len g c gp cp : Nat, i < len ∧ e = .returned (.tuple #[.int .i64 i, .int .i64 0]) ∧ w1.cell? ⟨q, 0, none⟩ = some (.slice (some ⟨g, 0, none⟩) len c) ∧ w1.cell? ⟨g, i * 3 + 1, none⟩ = some (.slice (some ⟨gp, 0, none⟩) 4096 cp) ∧ w1.cell? ⟨gp, d.from_.toNat * 4 + 2, none⟩ = some (.bool t.2.1)) := fun w1 hb => by
      obtain ⟨F2, ⟨⟨v, T⟩, hT, m1⟩, mcl⟩ := hb.fm
      refine (rat_any m1 hT hat).mono fun e w2 hp => ?_
      obtain ⟨rfl, ⟨h, _⟩ | ⟨_, i, hi, hin, rfl⟩⟩ := hp
      · exact absurd rfl h
      · have e := lk_at T hT.nod i hi
        rw [hT.eq, hin, hs] at e
        have e := Option.some.inj e
        obtain ⟨k, hkk⟩ : ∃ k : Nat, d.from_ = k := ⟨d.from_.toNat, by omega⟩
        obtain ⟨g, c, gp, cp, gw, cw, c0, c1, c2, c3, c4, -⟩ := page_cells m1 hi (k := k) (by omega) (t := t) (by rw [← e, ← hkk]; exact ht)
        exact ⟨rfl, i, T.length, g, c, gp, cp, hi, rfl, c0, c1, by rw [hkk, Int.toNat_natCast]; exact c4⟩
    have hcc : code = if t.2.1 = true then 0 else 6 := by rcases h2 with ⟨h, rfl⟩ | ⟨h, rfl⟩ <;> simp [h]
    obtain ⟨a0, a1, a2, a3, a4, ⟨a5, a6⟩, a7, a8, a9⟩ := d
    unfold FDd.arr at *
    simp only at *
    obtain ⟨k, rfl⟩ : ∃ k : Nat, a3 = k := ⟨a3.toNat, by omega⟩
    have hk4 : (k : Int) < 4096 := hpg.2
    simp only [Int.toNat_natCast] at hm
    obtain ⟨t1, t2, t3⟩ := t
    simp only at *
    clear f1 fcl H0 h hat HD hok hk hcd h2 hs ht hpg
    cases t2
    all_goals
      simp only [if_true, if_false, Bool.false_eq_true] at hcc
      subst hcc
      go_enter Try.func10, Try.ntmps10
      go_wp2_with fail
      refine (hpk _).mono ?_
      rintro e w1 ⟨rfl, hw⟩
      obtain rfl := hw.symm
      clear hw hpk
      go_wp2_with fail
      refine hf.mono ?_
      rintro e w1 ⟨rfl, hb1⟩
      have HB1 : Hid (Bec F w (Tri w.heap.size ⟨a0, a1, a2, k, a4, ⟨a5, a6⟩, a7, a8, a9⟩ (FlT p A) (FmT q A)) w1) := HX.out _ hb1.out
      have hm1 := hm _ HB1.out
      obtain ⟨x0, x1, x2, x3, x4, x5, x6, x7, x8, x9⟩ := deed_cells HB1.out.tri_box
      clear hb1 hm hf HX
      generalize hev : errV _ = ev at *
      go_wp2_with fail
      refine hm1.mono ?_
      rintro e w2 ⟨hw, i, len, g, c, gp, cp, hil, rfl, c0, c1, c2⟩
      obtain rfl := hw.symm
      have hilz : (i : Int) < (len : Int) := by omega
      clear hw hm1 hil
      go_wp2
      go_quiet (fail)
      go_wp2_with fail
      refine (hce _).mono ?_
      rintro e w3 ⟨rfl, hw⟩
      obtain rfl := hw.symm
      clear hw hce
      go_wp2
      go_ret
      exact ⟨rfl, HB1.out.right.below (below_drewN (Below.refl _ _) _)⟩
end Go.Proofs.Ytoimmapdkapheaa
