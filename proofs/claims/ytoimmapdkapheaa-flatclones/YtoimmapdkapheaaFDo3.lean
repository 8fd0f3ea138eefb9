/- Store done to both worlds. -/
import Derived.Test.YtoimmapdkapheaaFDo2
namespace Go.Proofs.Ytoimmapdkapheaa
set_option maxRecDepth 4000
open Go.RowKit

/-- One word of a space of the document's stored. -/
theorem fm_store {F : Nat → Prop} {w W : World} {q : Nat} {v : Value} {T : Sps} {A : Wd} {i : Nat} {n : Int} {s : Sp} (h : Bec F w (FmX q v T) W) (hT : FmOk T A) (hi : i < T.length) (hin : (T.getD i zT).1.n = n) (hs : (T.getD i zT).2 = s) (hso : s.ok) {k j u : Nat} (hk : k < 4096) (hj : j < 8) (hu : u < 18446744073709551616)
    (hr : Row rW8 0 W (T.getD i zT).1.vw (wordsA s.wd)) : Bec F w (FmT q (A.set n (some ⟨s.f, wdS s.wd k j u⟩))) (W.setCell ⟨(T.getD i zT).1.gw, k * 8 + j, none⟩ (.int .u64 u)) := by
  have hlen : k < (wordsA s.wd).length := by rw [words_len]; exact hk
  have hp := hr.put1 k j (.int .u64 u) (fun r => if r = j then u else s.wd k r) hlen hj (by
    rw [show (wordsA s.wd).getD k rW8.zero = s.wd k from words_get s.wd hk]
    exact w8set (s.wd k) hj u)
  have e1 : (wordsA s.wd).set k (fun r => if r = j then u else s.wd k r) = wordsA (wdS s.wd k j u) := by
    rw [words_set]
    refine words_congr fun a _ => ?_
    funext r
    unfold wdS
    by_cases c : a = k
    · subst c
      rw [if_pos rfl]
      by_cases c2 : r = j
      · rw [if_pos c2, if_pos ⟨rfl, c2⟩]
      · rw [if_neg c2, if_neg (fun h => c2 h.2)]
    · rw [if_neg c, if_neg (fun h => c h.1)]
  rw [e1] at hp
  have := fm_words h hi (wd' := wdS s.wd k j u) hp (Keeps.set W _ _ _)
  rw [hs] at this
  have h2 := ly_end (x := (T.getD i zT).1) (f := s.f) (wd := wdS s.wd k j u) this hT hi rfl (store_ok hso k j hu)
  rwa [hin] at h2
/-- What At tells where a word is, and what a store there leaves. -/
def StAt (F : Nat → Prop) (w : World) (q : Nat) (Z : Th → Th) (A' : Wd) (k j u : Nat) (t1 : Bool) (w1 : World) (e : Ending) (w2 : World) : Prop :=
  w2 = w1 ∧ ∃ (i len g c gp cp gw cw : Nat) (old : Value), i < len ∧ e = .returned (.tuple #[.int .i64 i, .int .i64 0]) ∧ w1.cell? ⟨q, 0, none⟩ = some (.slice (some ⟨g, 0, none⟩) len c) ∧ w1.cell? ⟨g, i * 3 + 1, none⟩ = some (.slice (some ⟨gp, 0, none⟩) 4096 cp) ∧
    w1.cell? ⟨g, i * 3 + 2, none⟩ = some (.slice (some ⟨gw, 0, none⟩) 4096 cw) ∧ w1.cell? ⟨gp, k * 4 + 1, none⟩ = some (.bool t1) ∧ w1.cell? ⟨gw, k * 8 + j, none⟩ = some old ∧ w1.frozen? ⟨gw, k * 8 + j, none⟩ = false ∧ Hid (Bec F w (Z (FmT q A')) (w1.setCell ⟨gw, k * 8 + j, none⟩ (.int .u64 u)))
set_option maxRecDepth 100000 in
set_option maxHeartbeats 16000000 in
theorem do_store {F : Nat → Prop} {w : World} {p q : Nat} {A A' : Wd} {d : FDd} {code : Int} {kd : Nat} (h : ((FlT p A).and (FmT q A)).In F w) (hok : d.ok) (hk : pickN d.what 11 = kd) (hkd : kd = 9 ∨ kd = 10) (hd : StoreD A d.space d.from_ d.i d.v code A') :
    Calls Try.prog 10 #[.pointer (some ⟨p, 0, none⟩), .pointer (some ⟨q, 0, none⟩), .agg d.arr] w (DoP F w p q A') := by
  have hcd : 0 ≤ code ∧ code ≤ 8 := StoreD.code hd
  have HD : Hid (StoreD A d.space d.from_ d.i d.v code A') := hd
  have hv : d.v < 18446744073709551616 := by have := hok.2.2.2.2.2.2.2; omega
  have hpk := fun w => pick_any d.what 11 w hok.1.1 hok.1.2 (by omega) (by omega)
  rw [hk] at hpk
  have H0 : Hid (Bec F w (Tri w.heap.size d (FlT p A) (FmT q A)) (w.alloc (.cells d.arr 34))) := tri_new h d
  obtain ⟨F1, f1, fcl⟩ := H0.out.fl
  have hf := stored_any f1 hok.2.1 hv HD.out
  have hce := fun w => code_err code w hcd
  have HX : Hid (∀ w1, Bec F1 (w.alloc (.cells d.arr 34)) (FlT p A') w1 → Bec F w (Tri w.heap.size d (FlT p A') (FmT q A)) w1) := fun w1 hb => fcl hb
  have hA : A.ok := by obtain ⟨_, ⟨_, hA⟩, _⟩ := f1; exact hA
  rcases hd with ⟨hat, hc, rfl⟩ | ⟨s, t, hs, hat, ht, h2⟩
  · have hm : ∀ w1, Bec F w (Tri w.heap.size d (FlT p A') (FmT q A')) w1 → Calls Try.prog 33 #[.pointer (some ⟨q, 0, none⟩), .int .i64 d.space, .int .i64 d.from_, .int .i64 d.i] w1 (fun e w2 => e = .returned (.tuple #[.int .i64 0, .int .i64 code]) ∧ w2 = w1) := fun w1 hb => by
      obtain ⟨F2, ⟨⟨v, T⟩, hT, m1⟩, mcl⟩ := hb.fm
      refine (rat_any m1 hT hat).mono fun e w2 hp => ?_
      obtain ⟨rfl, ⟨_, rfl⟩ | ⟨h, _⟩⟩ := hp
      · exact ⟨rfl, rfl⟩
      · exact absurd h hc
    obtain ⟨a0, a1, a2, a3, a4, ⟨a5, a6⟩, a7, a8, a9⟩ := d
    unfold FDd.arr at *
    simp only at *
    have hc' : (code == 0) = false := by simpa using hc
    clear f1 fcl H0 h hat HD hok hk hcd hA
    rcases hkd with rfl | rfl
    all_goals
      go_enter Try.func10, Try.ntmps10
      go_wp2_with fail
      refine (hpk _).mono ?_
      rintro e w1 ⟨rfl, hw⟩
      obtain rfl := hw.symm
      clear hw hpk
      go_wp2_with fail
      refine hf.mono ?_
      rintro e w1 ⟨rfl, hb1⟩
      have HB1 : Hid (Bec F w (Tri w.heap.size ⟨a0, a1, a2, a3, a4, ⟨a5, a6⟩, a7, a8, a9⟩ (FlT p A') (FmT q A')) w1) := HX.out _ hb1
      have hm1 := hm _ HB1.out
      obtain ⟨x0, x1, x2, x3, x4, x5, x6, x7, x8, x9⟩ := deed_cells HB1.out.tri_box
      clear hb1 hm hf HX
      generalize hev : errV code = ev at *
      go_wp2_with fail
      refine hm1.mono ?_
      rintro e w2 ⟨rfl, hw⟩
      obtain rfl := hw.symm
      clear hw hm1 
      go_wp2
      go_quiet (fail)
      go_wp2_with fail
      refine (hce _).mono ?_
      rintro e w3 ⟨rfl, hw⟩
      obtain rfl := hw.symm
      clear hw hce
      go_wp2
      go_ret
      exact ⟨rfl, HB1.out.right.below (below_drewN (Below.refl _ _) _)⟩
  · have hpg := page_in hA hs ht
    obtain ⟨_, _, _, hi0, hi8, _⟩ := hat.some
    obtain ⟨k, hkk⟩ : ∃ k : Nat, d.from_ = k := ⟨d.from_.toNat, by omega⟩
    obtain ⟨j, hjj⟩ : ∃ j : Nat, d.i = j := ⟨d.i.toNat, by omega⟩
    rw [hkk, hjj] at h2
    simp only [Int.toNat_natCast] at h2
    have hm : ∀ w1, Bec F w (Tri w.heap.size d (FlT p A') (FmT q A)) w1 → Calls Try.prog 33 #[.pointer (some ⟨q, 0, none⟩), .int .i64 d.space, .int .i64 d.from_, .int .i64 d.i] w1 (StAt F w q (fun Y => Tri w.heap.size d (FlT p A') Y) (A.set d.space (some ⟨s.f, wdS s.wd k j d.v⟩)) k j d.v t.1 w1) := fun w1 hb => by
      obtain ⟨F2, ⟨⟨v, T⟩, hT, m1⟩, mcl⟩ := hb.fm
      refine (rat_any m1 hT hat).mono fun e w2 hp => ?_
      obtain ⟨rfl, ⟨h, _⟩ | ⟨_, i, hi, hin, rfl⟩⟩ := hp
      · exact absurd rfl h
      · have e := lk_at T hT.nod i hi
        rw [hT.eq, hin, hs] at e
        have e := Option.some.inj e
        obtain ⟨g, c, gp, cp, gw, cw, c0, c1, c2, c3, c4, c5, c6, c7⟩ := page_cells m1 hi (k := k) (by omega) (t := t) (by rw [← e, ← hkk]; exact ht)
        rw [← e] at c7
        have hlen : k < (wordsA s.wd).length := by rw [words_len]; omega
        obtain ⟨g', e', -, -, -, -, -, hatk⟩ := c7.at hlen
        cases e'
        have hu := rW8.at hatk (j := j) (by omega)
        refine ⟨rfl, i, T.length, g, c, gp, cp, gw, cw, _, hi, rfl, c0, c1, c2, c3, hu, c7.frozen _, mcl ?_⟩
        have := fm_store (Bec.refl m1) hT hi hin e.symm (hA _ s hs).2 (k := k) (j := j) (u := d.v) (by omega) (by omega) hv (by unfold SpV.vw; rw [c5, c6]; exact c7)
        rwa [c5] at this
    obtain ⟨a0, a1, a2, a3, a4, ⟨a5, a6⟩, a7, a8, a9⟩ := d
    unfold FDd.arr at *
    simp only at *
    subst hkk
    subst hjj
    have hk4 : (k : Int) < 4096 := hpg.2
    have hj8 : (j : Int) < 8 := by omega
    obtain ⟨t1, t2, t3⟩ := t
    simp only at *
    clear f1 fcl H0 h hat HD hok hk hcd hs ht hpg hA hi0 hi8
    unfold StAt at hm
    rcases h2 with ⟨rfl, rfl, rfl⟩ | ⟨rfl, rfl, rfl⟩
    · rcases hkd with rfl | rfl
      all_goals
        go_enter Try.func10, Try.ntmps10
        go_wp2_with fail
        refine (hpk _).mono ?_
        rintro e w1 ⟨rfl, hw⟩
        obtain rfl := hw.symm
        clear hw hpk
        go_wp2_with fail
        refine hf.mono ?_
        rintro e w1 ⟨rfl, hb1⟩
        have HB1 : Hid (Bec F w (Tri w.heap.size ⟨a0, a1, a2, k, a4, ⟨a5, a6⟩, a7, j, a9⟩ (FlT p A') (FmT q A')) w1) := HX.out _ hb1
        have hm1 := hm _ HB1.out
        obtain ⟨x0, x1, x2, x3, x4, x5, x6, x7, x8, x9⟩ := deed_cells HB1.out.tri_box
        clear hb1 hm hf HX
        generalize hev : errV _ = ev at *
        go_wp2_with fail
        refine hm1.mono ?_
        rintro e w2 ⟨hw, i, len, g, c, gp, cp, gw, cw, old, hil, rfl, c0, c1, c2, c3, c4, c5, -⟩
        obtain rfl := hw.symm
        have hilz : (i : Int) < (len : Int) := by omega
        clear hw hm1 hil
        go_wp2
        go_quiet (fail)
        go_wp2_with fail
        refine (hce _).mono ?_
        rintro e w3 ⟨rfl, hw⟩
        obtain rfl := hw.symm
        clear hw hce
        go_wp2
        go_ret
        exact ⟨rfl, HB1.out.right.below (below_drewN (Below.refl _ _) _)⟩
    · rcases hkd with rfl | rfl
      all_goals
        go_enter Try.func10, Try.ntmps10
        go_wp2_with fail
        refine (hpk _).mono ?_
        rintro e w1 ⟨rfl, hw⟩
        obtain rfl := hw.symm
        clear hw hpk
        go_wp2_with fail
        refine hf.mono ?_
        rintro e w1 ⟨rfl, hb1⟩
        have HB1 : Hid (Bec F w (Tri w.heap.size ⟨a0, a1, a2, k, a4, ⟨a5, a6⟩, a7, j, a9⟩ (FlT p (A.set a1 (some ⟨s.f, wdS s.wd k j a9⟩))) (FmT q A)) w1) := HX.out _ hb1
        have hm1 := hm _ HB1.out
        obtain ⟨x0, x1, x2, x3, x4, x5, x6, x7, x8, x9⟩ := deed_cells HB1.out.tri_box
        clear hb1 hm hf HX
        generalize hev : errV _ = ev at *
        go_wp2_with fail
        refine hm1.mono ?_
        rintro e w2 ⟨hw, i, len, g, c, gp, cp, gw, cw, old, hil, rfl, c0, c1, c2, c3, c4, c5, HS⟩
        obtain rfl := hw.symm
        have hilz : (i : Int) < (len : Int) := by omega
        clear hw hm1 hil
        go_wp2
        go_quiet (fail)
        go_wp2
        go_region
        go_wp2_with fail
        refine (hce _).mono ?_
        rintro e w3 ⟨rfl, hw⟩
        obtain rfl := hw.symm
        clear hw hce
        go_wp2
        go_ret
        exact ⟨rfl, HS.out.right.below (below_drewN (Below.refl _ _) _)⟩
end Go.Proofs.Ytoimmapdkapheaa
