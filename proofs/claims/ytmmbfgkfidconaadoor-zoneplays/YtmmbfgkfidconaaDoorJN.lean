/- Own texts, joined: YBestT, YBestF, YModT, YModO, USame, YSame, UNew, YNew. -/
import Derived.Test.YtmmbfgkfidconaaDoorJM
import Derived.Test.YtmmbfgkfidconaaDoorJE
/- The document's zone: the best room, walked. -/
namespace Go.Proofs.YtmmbfgkfidconaaDoor
open Go.RowKit

set_option maxRecDepth 100000 in
set_option maxHeartbeats 16000000 in
theorem refBest_true {B : Nat} {w : World} {m s t kk cs ct ck : Nat} {M : List Bool} {gs : List Gp} (h : MB B w m s t kk cs ct ck M gs) {L : List Bk} (ho : Okl M.length L) (hcv : ∀ x, covB L x = M.getD x false) (hgl : gs.length ≤ 64) (hgn : M.length ≤ gs.length * 8) (so : Option Int) (sv : Int) (hso : soV so sv) (o : Nat) {res : Option Bk} (hr : Bst true (Cn gs L so o) res) :
    Calls Tryd.prog 38 #[.pointer (some ⟨m, 0, none⟩), .int .i64 sv, .int .i64 o, .bool true] w (BestP w res) := by
  have HM : Hid (MB B w m s t kk cs ct ck M gs) := h
  have HO : Hid (Okl M.length L) := ho
  have HC : Hid (∀ x, covB L x = M.getD x false) := hcv
  have HR : Hid (Bst true (Cn gs L so o) res) := hr
  have HSO : Hid (soV so sv) := hso
  obtain ⟨q, hq⟩ : ∃ q, w.heap.size = q := ⟨_, rfl⟩
  have hq1 : (w.alloc (.cells #[.int .i64 0, .int .i64 0] 56)).heap.size = q + 1 := by simp [hq]
  have HQ : Hid (w.heap.size = q) := hq
  have hmx := ho.max
  obtain ⟨G, hG⟩ : ∃ G, gs.length = G := ⟨_, rfl⟩
  have HG : Hid (gs.length = G) := hG
  have H0 : Hid (∀ W, W = (w.alloc (.cells #[.int .i64 0, .int .i64 0] 56)).alloc (.cells #[.int .i64 0, .int .i64 0] 56) → BR1 true gs L so o q w (.int .i64 (-1)) (.int .i64 0) W) := by
    rintro W rfl
    have hb := ((Below.refl w.heap.size w).alloc (Nat.le_refl _) (.cells #[.int .i64 0, .int .i64 0] 56))
    refine ⟨0, none, -1, Nat.zero_le _, rfl, rfl, rfl, In.zero, ?_, ?_, hb.alloc (by simp) _⟩
    · have := (Laid.new w 56 #[.int .i64 0, .int .i64 0]).below ((Below.refl _ _).alloc (Nat.le_refl _) (.cells #[.int .i64 0, .int .i64 0] 56))
      rw [hq] at this
      exact this
    · have := Laid.new (w.alloc (.cells #[.int .i64 0, .int .i64 0] 56)) 56 #[.int .i64 0, .int .i64 0]
      rw [hq1] at this
      exact this
  clear h ho hcv hr hso
  rw [hG] at hgl hgn
  clear hG
  go_enter Tryd.func38, Tryd.ntmps38
  go_wp2_with fail
  clear hq hq1
  go_loopw [11, 12] (fun gv iv W => BR1 true gs L so o q w gv iv W) (fun _ iv _ => G - (intOf iv).toNat)
  case atStart => exact H0.out _ rfl
  case round =>
    clear H0
    obtain ⟨g, a, x, hg, rfl, rfl, HI⟩ := hrel
    rw [HG.out] at hg
    have M1 := HM.out.below HI.out.2.2.2.2
    obtain ⟨c0, c1, c2⟩ := M1.cells
    rw [HG.out] at c1 c2
    by_cases hgG : g < G
    · have hgz : (g : Int) < (G : Int) := by omega
      obtain ⟨g0, g1, -, -⟩ := M1.grp (show g < gs.length by rw [HG.out]; exact hgG)
      have hok1 := fun s => gok_iff (show g < gs.length by rw [HG.out]; exact hgG) s
      have hok2 := gok_any (show g < gs.length by rw [HG.out]; exact hgG)
      generalize gs.getD g (0, false) = gk at *
      obtain ⟨gt, gc⟩ := gk
      simp only at g0 g1 hok1 hok2
      have hcase : (gc = true ∧ ¬ gok gs so g) ∨ (gc = false ∧ sv = -1 ∧ gok gs so g) ∨ (gc = false ∧ 0 ≤ sv ∧ gt = sv ∧ gok gs so g) ∨ (gc = false ∧ 0 ≤ sv ∧ gt ≠ sv ∧ ¬ gok gs so g) := by
        rcases HSO.out with ⟨rfl, rfl⟩ | ⟨rfl, h0⟩
        · rw [hok2]
          cases gc
          · exact Or.inr (Or.inl ⟨rfl, rfl, rfl⟩)
          · exact Or.inl ⟨rfl, by simp⟩
        · rw [hok1]
          cases gc
          · by_cases he : gt = sv
            · exact Or.inr (Or.inr (Or.inl ⟨rfl, h0, he, rfl, he⟩))
            · exact Or.inr (Or.inr (Or.inr ⟨rfl, h0, he, fun h => he h.2⟩))
          · exact Or.inl ⟨rfl, by simp⟩
      clear hok1 hok2
      have hskip : ¬ gok gs so g → BR1 true gs L so o q w (.int .i64 x) (.int .i64 ((g : Int) + 1)) wr := fun hn => by
        obtain ⟨i1, i2, i3, i4, i5⟩ := HI.out
        exact ⟨g + 1, a, x, by rw [HG.out]; omega, rfl, by simp, i1, i2.skip hn, i3, i4, i5⟩
      have HSK : Hid (¬ gok gs so g → BR1 true gs L so o q w (.int .i64 x) (.int .i64 ((g : Int) + 1)) wr) := hskip
      clear hskip
      rcases (show (gc = true ∧ ¬ gok gs so g) ∨ (gc = false ∧ 0 ≤ sv ∧ gt ≠ sv ∧ ¬ gok gs so g) ∨ ((gc = false ∧ sv = -1 ∧ gok gs so g) ∨ (gc = false ∧ 0 ≤ sv ∧ gt = sv ∧ gok gs so g)) by
        rcases hcase with h | h | h | h
        · exact Or.inl h
        · exact Or.inr (Or.inr (Or.inl h))
        · exact Or.inr (Or.inr (Or.inr h))
        · exact Or.inr (Or.inl h)) with ⟨rfl, hn⟩ | ⟨rfl, h1, h2, hn⟩ | hgo
      · have HS2 := HSK.out hn
        have HS3 : Hid _ := HS2
        clear hn HS2 hcase HI M1 c0
        go_wp2
        go_roundw
        case rel => exact HS3.out
        case measure => simp only [intOf]; omega
      · have HS2 := HSK.out hn
        have HS3 : Hid _ := HS2
        have hne : (gt != sv) = true := by simp [h2]
        clear hn HS2 hcase HI M1 c0 h2
        go_wp2
        go_roundw
        case rel => exact HS3.out
        case measure => simp only [intOf]; omega
      · clear hcase HSK
        have HGO : Hid (gok gs so g) := by rcases hgo with h | h; exact h.2.2; exact h.2.2.2
        have hRm := refRooms_any M1 HO.out rfl HC.out g (by omega)
        have HI1 : Hid (x = grA a ∧ In true gs L so o (g * 8) a ∧ Laid wr q 56 (bcells (0, 0)).toArray ∧ Laid wr (q + 1) 56 (bcells (ouA a)).toArray ∧ Below w.heap.size w wr) := HI.out
        clear M1 HI c0
        rcases (show (gc = false ∧ ¬ 0 ≤ sv) ∨ (gc = false ∧ 0 ≤ sv ∧ gt = sv) by
          rcases hgo with h | h
          · exact Or.inl ⟨h.1, by have := h.2.1; omega⟩
          · exact Or.inr ⟨h.1, h.2.1, h.2.2.1⟩) with ⟨rfl, h1⟩ | ⟨rfl, h1, h2⟩
        all_goals clear hgo
        all_goals
          first | (have hne : (gt != sv) = false := by simp [h2]) | skip
          go_wp2_with fail
          refine hRm.mono ?_
          rintro e w2 ⟨vl, rfl, R2, hb2⟩
          obtain ⟨al, cl, rfl⟩ := R2.form
          obtain ⟨ql, hql⟩ : ∃ ql, wr.heap.size = ql := ⟨_, rfl⟩
          rw [hql] at R2
          have HLT : Hid (q + 1 < ql) := by rw [← hql]; exact HI1.out.2.2.2.1.lt
          have HI2 : Hid (BR2 true gs L so o g q ql (.slice al (RG L g).length cl) w (.int .i64 x) (.int .i64 0) w2) := by
            obtain ⟨i1, i2, i3, i4, i5⟩ := HI1.out
            exact ⟨0, a, x, Nat.zero_le _, rfl, rfl, i1, BI.start i2, i3.below hb2, i4.below hb2, R2, below_call' i5 hb2⟩
          obtain ⟨N, hN⟩ : ∃ N, (RG L g).length = N := ⟨_, rfl⟩
          rw [hN] at HI2 ⊢
          have HNN : Hid ((RG L g).length = N) := hN
          have hN5 : N ≤ 512 := by have := RG_len g L; have := HO.out.len; omega
          clear hRm R2 hb2 HI1 hql c1 c2 g0 g1 hN
          go_wp2_with fail
          go_loopw [11, 14] (fun gv iv W => BR2 true gs L so o g q ql (.slice al N cl) w gv iv W) (fun _ iv _ => N - (intOf iv).toNat)
          case atStart => exact HI2.out
          case round =>
            clear HI2
            obtain ⟨i, a, x, hi, rfl, rfl, HI⟩ := hrel
            rw [HNN.out] at hi
            by_cases hil : i < N
            · have hiz : (i : Int) < (N : Int) := by omega
              have HIL : Hid (i < (RG L g).length) := by rw [HNN.out]; exact hil
              have HBH : Hid (BH true gs L so o g q ql i (.slice al N cl) w wr a x) := HI.out
              obtain ⟨gl, rfl, -, -, hgl, -, -, hat⟩ := HI.out.2.2.2.2.1.at HIL.out
              obtain ⟨x0, x1⟩ := rB.at hat
              simp only [show rB.n = 2 from rfl, show rB.zero = (0, 0) from rfl] at x0 x1
              have hy := HI.out.2.2.2.1
              have y1 := hy.cell 1
              have y0 := hy.cell 0
              simp [bcells] at y0 y1
              have yf0 := hy.frozen 0
              have yf1 := hy.frozen 1
              have yl := hy.lt
              have hxa := HI.out.1
              have HRM : Hid (Rm L ((RG L g).getD i (0, 0)) ∧ ((RG L g).getD i (0, 0)).1 / 8 = g) := (RG_iff HO.out g _).1 (by rw [List.getD_eq_getElem?_getD, List.getElem?_eq_getElem HIL.out]; exact List.getElem_mem _)
              have HSK : Hid (((RG L g).getD i (0, 0)).2 < o → BI true gs L so o g (i + 1) a) := fun h => BI.skip HI.out.2.1 HIL.out h
              have HST : Hid (o ≤ ((RG L g).getD i (0, 0)).2 → BI true gs L so o g (i + 1) (nxt true ((RG L g).getD i (0, 0)) a)) := fun h => BI.step HO.out HI.out.2.1 HIL.out h
              obtain ⟨r, hr⟩ : ∃ r, (RG L g).getD i (0, 0) = r := ⟨_, rfl⟩
              rw [hr] at HRM HSK HST x0 x1
              clear hat hy HI hr
              cases a with
              | none =>
                have hx0 : x < 0 := by simp only [grA] at hxa; omega
                by_cases hor : o ≤ r.2
                · as_aux_lemma =>
                  have hoz : (o : Int) ≤ (r.2 : Int) := by omega
                  have hst := HST.out hor
                  have HUP : Hid (∀ W, Below wr.heap.size wr W → BR2 true gs L so o g q ql (.slice (some ⟨gl, 0, none⟩) N cl) w (.int .i64 g) (.int .i64 ((i : Int) + 1)) ((W.setCell ⟨q + 1, 0, none⟩ (.int .i64 r.1)).setCell ⟨q + 1, 1, none⟩ (.int .i64 r.2))) := fun W hb => BH.more HBH.out HIL.out hst HRM.out.2 HQ.out HLT.out hb
                  clear hst HBH HST HSK hxa hor
                  go_wp2
                  go_quiet (fail)
                  go_wp2
                  go_roundw
                  case rel => exact HUP.out _ (below_drewN (Below.refl _ _) _)
                  case measure => simp only [intOf]; omega
                · as_aux_lemma =>
                  have hoz : ¬ (o : Int) ≤ (r.2 : Int) := by omega
                  have hst := HSK.out (by omega)
                  have HSM : Hid (∀ W, Below wr.heap.size wr W → BR2 true gs L so o g q ql (.slice (some ⟨gl, 0, none⟩) N cl) w (.int .i64 x) (.int .i64 ((i : Int) + 1)) W) := fun W hb => BH.less HBH.out HIL.out hst hb
                  clear hst HBH HST HSK hxa hor
                  go_wp2
                  go_quiet (fail)
                  go_wp2
                  go_roundw
                  case rel => exact HSM.out _ (below_drewN (Below.refl _ _) _)
                  case measure => simp only [intOf]; omega
              | some b =>
                have hxb : decide (x < 0) = false := decide_eq_false (by simp only [grA] at hxa; omega)
                simp only [ouA] at y0 y1
                by_cases hlt : r.2 < b.2
                · have htb : decide (r.2 < b.2) = true := decide_eq_true hlt
                  have hnx : nxt true r (some b) = some r := by simp [nxt, bet, hlt]
                  rw [hnx] at HST
                  by_cases hor : o ≤ r.2
                  · as_aux_lemma =>
                    have hoz : (o : Int) ≤ (r.2 : Int) := by omega
                    have hst := HST.out hor
                    have HUP : Hid (∀ W, Below wr.heap.size wr W → BR2 true gs L so o g q ql (.slice (some ⟨gl, 0, none⟩) N cl) w (.int .i64 g) (.int .i64 ((i : Int) + 1)) ((W.setCell ⟨q + 1, 0, none⟩ (.int .i64 r.1)).setCell ⟨q + 1, 1, none⟩ (.int .i64 r.2))) := fun W hb => BH.more HBH.out HIL.out hst HRM.out.2 HQ.out HLT.out hb
                    clear hst HBH HST HSK hxa hor hnx hlt
                    go_wp2
                    go_quiet (fail)
                    go_wp2
                    go_roundw
                    case rel => exact HUP.out _ (below_drewN (Below.refl _ _) _)
                    case measure => simp only [intOf]; omega
                  · as_aux_lemma =>
                    have hoz : ¬ (o : Int) ≤ (r.2 : Int) := by omega
                    have hst := HSK.out (by omega)
                    have HSM : Hid (∀ W, Below wr.heap.size wr W → BR2 true gs L so o g q ql (.slice (some ⟨gl, 0, none⟩) N cl) w (.int .i64 x) (.int .i64 ((i : Int) + 1)) W) := fun W hb => BH.less HBH.out HIL.out hst hb
                    clear hst HBH HST HSK hxa hor hnx hlt
                    go_wp2
                    go_quiet (fail)
                    go_wp2
                    go_roundw
                    case rel => exact HSM.out _ (below_drewN (Below.refl _ _) _)
                    case measure => simp only [intOf]; omega
                · have htb : decide (r.2 < b.2) = false := decide_eq_false hlt
                  have hnx : nxt true r (some b) = some b := by simp [nxt, bet, hlt]
                  rw [hnx] at HST
                  by_cases hor : o ≤ r.2
                  · as_aux_lemma =>
                    have hoz : (o : Int) ≤ (r.2 : Int) := by omega
                    have hst := HST.out hor
                    have HSM : Hid (∀ W, Below wr.heap.size wr W → BR2 true gs L so o g q ql (.slice (some ⟨gl, 0, none⟩) N cl) w (.int .i64 x) (.int .i64 ((i : Int) + 1)) W) := fun W hb => BH.less HBH.out HIL.out hst hb
                    clear hst HBH HST HSK hxa hor hnx hlt
                    go_wp2
                    go_quiet (fail)
                    go_wp2
                    go_roundw
                    case rel => exact HSM.out _ (below_drewN (Below.refl _ _) _)
                    case measure => simp only [intOf]; omega
                  · as_aux_lemma =>
                    have hoz : ¬ (o : Int) ≤ (r.2 : Int) := by omega
                    have hst := HSK.out (by omega)
                    have HSM : Hid (∀ W, Below wr.heap.size wr W → BR2 true gs L so o g q ql (.slice (some ⟨gl, 0, none⟩) N cl) w (.int .i64 x) (.int .i64 ((i : Int) + 1)) W) := fun W hb => BH.less HBH.out HIL.out hst hb
                    clear hst HBH HST HSK hxa hor hnx hlt
                    go_wp2
                    go_quiet (fail)
                    go_wp2
                    go_roundw
                    case rel => exact HSM.out _ (below_drewN (Below.refl _ _) _)
                    case measure => simp only [intOf]; omega
            · obtain rfl : i = N := by omega
              have HEN : Hid (BR1 true gs L so o q w (.int .i64 x) (.int .i64 ((g : Int) + 1)) wr) := by
                obtain ⟨i1, i2, i3, i4, i5, i6⟩ := HI.out
                exact ⟨g + 1, a, x, by rw [HG.out]; omega, rfl, by simp, i1, BI.done HO.out HGO.out (by rw [HNN.out]; exact i2), i3, i4, i6⟩
              clear HI
              go_wp2
              go_roundw
              case rel => exact HEN.out
              case measure => simp only [intOf]; omega
    · obtain rfl : g = G := by omega
      obtain ⟨i1, i2, i3, i4, i5⟩ := HI.out
      have e : a = res := (i2.all HO.out (by omega)).unique HR.out (fun _ => Iff.rfl) (Cn.inj HO.out)
      have y0 := i4.cell 0
      have y1 := i4.cell 1
      have z0 := i3.cell 0
      have z1 := i3.cell 1
      have zf0 := i3.frozen 0
      have zf1 := i3.frozen 1
      have zl := i3.lt
      have HX : Hid (x = grA res ∧ Below w.heap.size w wr ∧ ouA a = ouA res) := ⟨by rw [i1, e], i5, by rw [e]⟩
      have HKP : Hid (∀ W, Keeps wr W (fun b => b = q) → Below w.heap.size w W) := fun W hk => i5.trans (hk.below i5.size fun c _ e => by rw [e, ← HQ.out]; exact Nat.le_refl _)
      simp [bcells] at y0 y1 z0 z1
      clear i1 i2 i3 i4 i5 HI M1 c0 e
      go_wp2
      refine bodyPost_ret (v := .tuple #[bval (ouA a), .int .i64 x]) ?_ rfl ⟨by rw [HX.out.1, HX.out.2.2], HKP.out _ ((Keeps.set _ _ _ _).trans (Keeps.set _ _ _ _) fun _ _ h => h)⟩
      simp [results, Tryd.results38, go_sem, bval, z0, z1]
end Go.Proofs.YtmmbfgkfidconaaDoor
/- The document's zone: the best room, walked. -/
namespace Go.Proofs.YtmmbfgkfidconaaDoor
open Go.RowKit

set_option maxRecDepth 100000 in
set_option maxHeartbeats 16000000 in
theorem refBest_false {B : Nat} {w : World} {m s t kk cs ct ck : Nat} {M : List Bool} {gs : List Gp} (h : MB B w m s t kk cs ct ck M gs) {L : List Bk} (ho : Okl M.length L) (hcv : ∀ x, covB L x = M.getD x false) (hgl : gs.length ≤ 64) (hgn : M.length ≤ gs.length * 8) (so : Option Int) (sv : Int) (hso : soV so sv) (o : Nat) {res : Option Bk} (hr : Bst false (Cn gs L so o) res) :
    Calls Tryd.prog 38 #[.pointer (some ⟨m, 0, none⟩), .int .i64 sv, .int .i64 o, .bool false] w (BestP w res) := by
  have HM : Hid (MB B w m s t kk cs ct ck M gs) := h
  have HO : Hid (Okl M.length L) := ho
  have HC : Hid (∀ x, covB L x = M.getD x false) := hcv
  have HR : Hid (Bst false (Cn gs L so o) res) := hr
  have HSO : Hid (soV so sv) := hso
  obtain ⟨q, hq⟩ : ∃ q, w.heap.size = q := ⟨_, rfl⟩
  have hq1 : (w.alloc (.cells #[.int .i64 0, .int .i64 0] 56)).heap.size = q + 1 := by simp [hq]
  have HQ : Hid (w.heap.size = q) := hq
  have hmx := ho.max
  obtain ⟨G, hG⟩ : ∃ G, gs.length = G := ⟨_, rfl⟩
  have HG : Hid (gs.length = G) := hG
  have H0 : Hid (∀ W, W = (w.alloc (.cells #[.int .i64 0, .int .i64 0] 56)).alloc (.cells #[.int .i64 0, .int .i64 0] 56) → BR1 false gs L so o q w (.int .i64 (-1)) (.int .i64 0) W) := by
    rintro W rfl
    have hb := ((Below.refl w.heap.size w).alloc (Nat.le_refl _) (.cells #[.int .i64 0, .int .i64 0] 56))
    refine ⟨0, none, -1, Nat.zero_le _, rfl, rfl, rfl, In.zero, ?_, ?_, hb.alloc (by simp) _⟩
    · have := (Laid.new w 56 #[.int .i64 0, .int .i64 0]).below ((Below.refl _ _).alloc (Nat.le_refl _) (.cells #[.int .i64 0, .int .i64 0] 56))
      rw [hq] at this
      exact this
    · have := Laid.new (w.alloc (.cells #[.int .i64 0, .int .i64 0] 56)) 56 #[.int .i64 0, .int .i64 0]
      rw [hq1] at this
      exact this
  clear h ho hcv hr hso
  rw [hG] at hgl hgn
  clear hG
  go_enter Tryd.func38, Tryd.ntmps38
  go_wp2_with fail
  clear hq hq1
  go_loopw [11, 12] (fun gv iv W => BR1 false gs L so o q w gv iv W) (fun _ iv _ => G - (intOf iv).toNat)
  case atStart => exact H0.out _ rfl
  case round =>
    clear H0
    obtain ⟨g, a, x, hg, rfl, rfl, HI⟩ := hrel
    rw [HG.out] at hg
    have M1 := HM.out.below HI.out.2.2.2.2
    obtain ⟨c0, c1, c2⟩ := M1.cells
    rw [HG.out] at c1 c2
    by_cases hgG : g < G
    · have hgz : (g : Int) < (G : Int) := by omega
      obtain ⟨g0, g1, -, -⟩ := M1.grp (show g < gs.length by rw [HG.out]; exact hgG)
      have hok1 := fun s => gok_iff (show g < gs.length by rw [HG.out]; exact hgG) s
      have hok2 := gok_any (show g < gs.length by rw [HG.out]; exact hgG)
      generalize gs.getD g (0, false) = gk at *
      obtain ⟨gt, gc⟩ := gk
      simp only at g0 g1 hok1 hok2
      have hcase : (gc = true ∧ ¬ gok gs so g) ∨ (gc = false ∧ sv = -1 ∧ gok gs so g) ∨ (gc = false ∧ 0 ≤ sv ∧ gt = sv ∧ gok gs so g) ∨ (gc = false ∧ 0 ≤ sv ∧ gt ≠ sv ∧ ¬ gok gs so g) := by
        rcases HSO.out with ⟨rfl, rfl⟩ | ⟨rfl, h0⟩
        · rw [hok2]
          cases gc
          · exact Or.inr (Or.inl ⟨rfl, rfl, rfl⟩)
          · exact Or.inl ⟨rfl, by simp⟩
        · rw [hok1]
          cases gc
          · by_cases he : gt = sv
            · exact Or.inr (Or.inr (Or.inl ⟨rfl, h0, he, rfl, he⟩))
            · exact Or.inr (Or.inr (Or.inr ⟨rfl, h0, he, fun h => he h.2⟩))
          · exact Or.inl ⟨rfl, by simp⟩
      clear hok1 hok2
      have hskip : ¬ gok gs so g → BR1 false gs L so o q w (.int .i64 x) (.int .i64 ((g : Int) + 1)) wr := fun hn => by
        obtain ⟨i1, i2, i3, i4, i5⟩ := HI.out
        exact ⟨g + 1, a, x, by rw [HG.out]; omega, rfl, by simp, i1, i2.skip hn, i3, i4, i5⟩
      have HSK : Hid (¬ gok gs so g → BR1 false gs L so o q w (.int .i64 x) (.int .i64 ((g : Int) + 1)) wr) := hskip
      clear hskip
      rcases (show (gc = true ∧ ¬ gok gs so g) ∨ (gc = false ∧ 0 ≤ sv ∧ gt ≠ sv ∧ ¬ gok gs so g) ∨ ((gc = false ∧ sv = -1 ∧ gok gs so g) ∨ (gc = false ∧ 0 ≤ sv ∧ gt = sv ∧ gok gs so g)) by
        rcases hcase with h | h | h | h
        · exact Or.inl h
        · exact Or.inr (Or.inr (Or.inl h))
        · exact Or.inr (Or.inr (Or.inr h))
        · exact Or.inr (Or.inl h)) with ⟨rfl, hn⟩ | ⟨rfl, h1, h2, hn⟩ | hgo
      · have HS2 := HSK.out hn
        have HS3 : Hid _ := HS2
        clear hn HS2 hcase HI M1 c0
        go_wp2
        go_roundw
        case rel => exact HS3.out
        case measure => simp only [intOf]; omega
      · have HS2 := HSK.out hn
        have HS3 : Hid _ := HS2
        have hne : (gt != sv) = true := by simp [h2]
        clear hn HS2 hcase HI M1 c0 h2
        go_wp2
        go_roundw
        case rel => exact HS3.out
        case measure => simp only [intOf]; omega
      · clear hcase HSK
        have HGO : Hid (gok gs so g) := by rcases hgo with h | h; exact h.2.2; exact h.2.2.2
        have hRm := refRooms_any M1 HO.out rfl HC.out g (by omega)
        have HI1 : Hid (x = grA a ∧ In false gs L so o (g * 8) a ∧ Laid wr q 56 (bcells (0, 0)).toArray ∧ Laid wr (q + 1) 56 (bcells (ouA a)).toArray ∧ Below w.heap.size w wr) := HI.out
        clear M1 HI c0
        rcases (show (gc = false ∧ ¬ 0 ≤ sv) ∨ (gc = false ∧ 0 ≤ sv ∧ gt = sv) by
          rcases hgo with h | h
          · exact Or.inl ⟨h.1, by have := h.2.1; omega⟩
          · exact Or.inr ⟨h.1, h.2.1, h.2.2.1⟩) with ⟨rfl, h1⟩ | ⟨rfl, h1, h2⟩
        all_goals clear hgo
        all_goals
          first | (have hne : (gt != sv) = false := by simp [h2]) | skip
          go_wp2_with fail
          refine hRm.mono ?_
          rintro e w2 ⟨vl, rfl, R2, hb2⟩
          obtain ⟨al, cl, rfl⟩ := R2.form
          obtain ⟨ql, hql⟩ : ∃ ql, wr.heap.size = ql := ⟨_, rfl⟩
          rw [hql] at R2
          have HLT : Hid (q + 1 < ql) := by rw [← hql]; exact HI1.out.2.2.2.1.lt
          have HI2 : Hid (BR2 false gs L so o g q ql (.slice al (RG L g).length cl) w (.int .i64 x) (.int .i64 0) w2) := by
            obtain ⟨i1, i2, i3, i4, i5⟩ := HI1.out
            exact ⟨0, a, x, Nat.zero_le _, rfl, rfl, i1, BI.start i2, i3.below hb2, i4.below hb2, R2, below_call' i5 hb2⟩
          obtain ⟨N, hN⟩ : ∃ N, (RG L g).length = N := ⟨_, rfl⟩
          rw [hN] at HI2 ⊢
          have HNN : Hid ((RG L g).length = N) := hN
          have hN5 : N ≤ 512 := by have := RG_len g L; have := HO.out.len; omega
          clear hRm R2 hb2 HI1 hql c1 c2 g0 g1 hN
          go_wp2_with fail
          go_loopw [11, 14] (fun gv iv W => BR2 false gs L so o g q ql (.slice al N cl) w gv iv W) (fun _ iv _ => N - (intOf iv).toNat)
          case atStart => exact HI2.out
          case round =>
            clear HI2
            obtain ⟨i, a, x, hi, rfl, rfl, HI⟩ := hrel
            rw [HNN.out] at hi
            by_cases hil : i < N
            · have hiz : (i : Int) < (N : Int) := by omega
              have HIL : Hid (i < (RG L g).length) := by rw [HNN.out]; exact hil
              have HBH : Hid (BH false gs L so o g q ql i (.slice al N cl) w wr a x) := HI.out
              obtain ⟨gl, rfl, -, -, hgl, -, -, hat⟩ := HI.out.2.2.2.2.1.at HIL.out
              obtain ⟨x0, x1⟩ := rB.at hat
              simp only [show rB.n = 2 from rfl, show rB.zero = (0, 0) from rfl] at x0 x1
              have hy := HI.out.2.2.2.1
              have y1 := hy.cell 1
              have y0 := hy.cell 0
              simp [bcells] at y0 y1
              have yf0 := hy.frozen 0
              have yf1 := hy.frozen 1
              have yl := hy.lt
              have hxa := HI.out.1
              have HRM : Hid (Rm L ((RG L g).getD i (0, 0)) ∧ ((RG L g).getD i (0, 0)).1 / 8 = g) := (RG_iff HO.out g _).1 (by rw [List.getD_eq_getElem?_getD, List.getElem?_eq_getElem HIL.out]; exact List.getElem_mem _)
              have HSK : Hid (((RG L g).getD i (0, 0)).2 < o → BI false gs L so o g (i + 1) a) := fun h => BI.skip HI.out.2.1 HIL.out h
              have HST : Hid (o ≤ ((RG L g).getD i (0, 0)).2 → BI false gs L so o g (i + 1) (nxt false ((RG L g).getD i (0, 0)) a)) := fun h => BI.step HO.out HI.out.2.1 HIL.out h
              obtain ⟨r, hr⟩ : ∃ r, (RG L g).getD i (0, 0) = r := ⟨_, rfl⟩
              rw [hr] at HRM HSK HST x0 x1
              clear hat hy HI hr
              cases a with
              | none =>
                have hx0 : x < 0 := by simp only [grA] at hxa; omega
                by_cases hor : o ≤ r.2
                · as_aux_lemma =>
                  have hoz : (o : Int) ≤ (r.2 : Int) := by omega
                  have hst := HST.out hor
                  have HUP : Hid (∀ W, Below wr.heap.size wr W → BR2 false gs L so o g q ql (.slice (some ⟨gl, 0, none⟩) N cl) w (.int .i64 g) (.int .i64 ((i : Int) + 1)) ((W.setCell ⟨q + 1, 0, none⟩ (.int .i64 r.1)).setCell ⟨q + 1, 1, none⟩ (.int .i64 r.2))) := fun W hb => BH.more HBH.out HIL.out hst HRM.out.2 HQ.out HLT.out hb
                  clear hst HBH HST HSK hxa hor
                  go_wp2
                  go_quiet (fail)
                  go_wp2
                  go_roundw
                  case rel => exact HUP.out _ (below_drewN (Below.refl _ _) _)
                  case measure => simp only [intOf]; omega
                · as_aux_lemma =>
                  have hoz : ¬ (o : Int) ≤ (r.2 : Int) := by omega
                  have hst := HSK.out (by omega)
                  have HSM : Hid (∀ W, Below wr.heap.size wr W → BR2 false gs L so o g q ql (.slice (some ⟨gl, 0, none⟩) N cl) w (.int .i64 x) (.int .i64 ((i : Int) + 1)) W) := fun W hb => BH.less HBH.out HIL.out hst hb
                  clear hst HBH HST HSK hxa hor
                  go_wp2
                  go_quiet (fail)
                  go_wp2
                  go_roundw
                  case rel => exact HSM.out _ (below_drewN (Below.refl _ _) _)
                  case measure => simp only [intOf]; omega
              | some b =>
                have hxb : decide (x < 0) = false := decide_eq_false (by simp only [grA] at hxa; omega)
                simp only [ouA] at y0 y1
                by_cases hlt : b.2 < r.2
                · have htb : decide (b.2 < r.2) = true := decide_eq_true hlt
                  have hnx : nxt false r (some b) = some r := by simp [nxt, bet, hlt]
                  rw [hnx] at HST
                  by_cases hor : o ≤ r.2
                  · as_aux_lemma =>
                    have hoz : (o : Int) ≤ (r.2 : Int) := by omega
                    have hst := HST.out hor
                    have HUP : Hid (∀ W, Below wr.heap.size wr W → BR2 false gs L so o g q ql (.slice (some ⟨gl, 0, none⟩) N cl) w (.int .i64 g) (.int .i64 ((i : Int) + 1)) ((W.setCell ⟨q + 1, 0, none⟩ (.int .i64 r.1)).setCell ⟨q + 1, 1, none⟩ (.int .i64 r.2))) := fun W hb => BH.more HBH.out HIL.out hst HRM.out.2 HQ.out HLT.out hb
                    clear hst HBH HST HSK hxa hor hnx hlt
                    go_wp2
                    go_quiet (fail)
                    go_wp2
                    go_roundw
                    case rel => exact HUP.out _ (below_drewN (Below.refl _ _) _)
                    case measure => simp only [intOf]; omega
                  · as_aux_lemma =>
                    have hoz : ¬ (o : Int) ≤ (r.2 : Int) := by omega
                    have hst := HSK.out (by omega)
                    have HSM : Hid (∀ W, Below wr.heap.size wr W → BR2 false gs L so o g q ql (.slice (some ⟨gl, 0, none⟩) N cl) w (.int .i64 x) (.int .i64 ((i : Int) + 1)) W) := fun W hb => BH.less HBH.out HIL.out hst hb
                    clear hst HBH HST HSK hxa hor hnx hlt
                    go_wp2
                    go_quiet (fail)
                    go_wp2
                    go_roundw
                    case rel => exact HSM.out _ (below_drewN (Below.refl _ _) _)
                    case measure => simp only [intOf]; omega
                · have htb : decide (b.2 < r.2) = false := decide_eq_false hlt
                  have hnx : nxt false r (some b) = some b := by simp [nxt, bet, hlt]
                  rw [hnx] at HST
                  by_cases hor : o ≤ r.2
                  · as_aux_lemma =>
                    have hoz : (o : Int) ≤ (r.2 : Int) := by omega
                    have hst := HST.out hor
                    have HSM : Hid (∀ W, Below wr.heap.size wr W → BR2 false gs L so o g q ql (.slice (some ⟨gl, 0, none⟩) N cl) w (.int .i64 x) (.int .i64 ((i : Int) + 1)) W) := fun W hb => BH.less HBH.out HIL.out hst hb
                    clear hst HBH HST HSK hxa hor hnx hlt
                    go_wp2
                    go_quiet (fail)
                    go_wp2
                    go_roundw
                    case rel => exact HSM.out _ (below_drewN (Below.refl _ _) _)
                    case measure => simp only [intOf]; omega
                  · as_aux_lemma =>
                    have hoz : ¬ (o : Int) ≤ (r.2 : Int) := by omega
                    have hst := HSK.out (by omega)
                    have HSM : Hid (∀ W, Below wr.heap.size wr W → BR2 false gs L so o g q ql (.slice (some ⟨gl, 0, none⟩) N cl) w (.int .i64 x) (.int .i64 ((i : Int) + 1)) W) := fun W hb => BH.less HBH.out HIL.out hst hb
                    clear hst HBH HST HSK hxa hor hnx hlt
                    go_wp2
                    go_quiet (fail)
                    go_wp2
                    go_roundw
                    case rel => exact HSM.out _ (below_drewN (Below.refl _ _) _)
                    case measure => simp only [intOf]; omega
            · obtain rfl : i = N := by omega
              have HEN : Hid (BR1 false gs L so o q w (.int .i64 x) (.int .i64 ((g : Int) + 1)) wr) := by
                obtain ⟨i1, i2, i3, i4, i5, i6⟩ := HI.out
                exact ⟨g + 1, a, x, by rw [HG.out]; omega, rfl, by simp, i1, BI.done HO.out HGO.out (by rw [HNN.out]; exact i2), i3, i4, i6⟩
              clear HI
              go_wp2
              go_roundw
              case rel => exact HEN.out
              case measure => simp only [intOf]; omega
    · obtain rfl : g = G := by omega
      obtain ⟨i1, i2, i3, i4, i5⟩ := HI.out
      have e : a = res := (i2.all HO.out (by omega)).unique HR.out (fun _ => Iff.rfl) (Cn.inj HO.out)
      have y0 := i4.cell 0
      have y1 := i4.cell 1
      have z0 := i3.cell 0
      have z1 := i3.cell 1
      have zf0 := i3.frozen 0
      have zf1 := i3.frozen 1
      have zl := i3.lt
      have HX : Hid (x = grA res ∧ Below w.heap.size w wr ∧ ouA a = ouA res) := ⟨by rw [i1, e], i5, by rw [e]⟩
      have HKP : Hid (∀ W, Keeps wr W (fun b => b = q) → Below w.heap.size w W) := fun W hk => i5.trans (hk.below i5.size fun c _ e => by rw [e, ← HQ.out]; exact Nat.le_refl _)
      simp [bcells] at y0 y1 z0 z1
      clear i1 i2 i3 i4 i5 HI M1 c0 e
      go_wp2
      refine bodyPost_ret (v := .tuple #[bval (ouA a), .int .i64 x]) ?_ rfl ⟨by rw [HX.out.1, HX.out.2.2], HKP.out _ ((Keeps.set _ _ _ _).trans (Keeps.set _ _ _ _) fun _ _ h => h)⟩
      simp [results, Tryd.results38, go_sem, bval, z0, z1]
end Go.Proofs.YtmmbfgkfidconaaDoor
/- The document's zone: Take, walked. -/
namespace Go.Proofs.YtmmbfgkfidconaaDoor
open Go.RowKit

/-- Take's answers. -/
def RTakeZ (B : Nat) (w : World) (m s t k cs ct ck : Nat) (M : List Bool) (gs : List Gp) (x : Int) (o : Nat) (res : Option Bk) (e : Ending) (w' : World) : Prop :=
  match res with
  | none => e = .returned (.int .i64 (-1)) ∧ MB B w' m s t k cs ct ck M gs ∧ Keeps w w' (mf m s t k)
  | some r => e = .returned (.int .i64 r.1) ∧ MB B w' m s t k cs ct ck (setK M r.1 (2 ^ o) false) (gs.set (r.1 / 8) (x, false)) ∧ Keeps w w' (mf m s t k)
/-- Set, behind the search. -/
def RTail (B : Nat) (w W : World) (m s t k cs ct ck : Nat) (M : List Bool) (gs : List Gp) (e : Ending) (w' : World) : Prop :=
  e = .returned (.tuple #[]) ∧ MB B w' m s t k cs ct ck M gs ∧ Keeps w w' (mf m s t k) ∧ ∀ c j, c ≠ s → c < W.heap.size → w'.cell? ⟨c, j, none⟩ = W.cell? ⟨c, j, none⟩
theorem rt_tail {B : Nat} {w W : World} {m s t k cs ct ck : Nat} {M : List Bool} {gs : List Gp} (h : MB B W m s t k cs ct ck M gs) (hk : Keeps w W (mf m s t k)) (hm : M.length ≤ 512) {f o : Nat} (h5 : o ≤ 5) (hbn : bend (f, o) ≤ M.length) (b : Bool) :
    Calls Tryd.prog 18 #[.slice (some ⟨s, 0, none⟩) M.length cs, .int .i64 f, .int .i64 o, .bool b] W (RTail B w W m s t k cs ct ck (setK M f (2 ^ o) b) gs) := by
  refine (refSet_any h.rs hm (f, o) h5 hbn b).mono ?_
  rintro e w' ⟨rfl, hr, hk2⟩
  have hk' : Keeps W w' (fun b => b = s) := hk2.mono fun b _ e => by simpa [Value.ownBlock] using e.symm
  exact ⟨rfl, h.setS hr (setK_len _ _ _ _) hk', hk.trans hk' fun b _ e => Or.inr (Or.inl e), fun c j hc hcl => hk'.cell hcl hc j⟩

set_option maxRecDepth 100000 in
set_option maxHeartbeats 8000000 in
theorem refTakeZ_any {B : Nat} {w : World} {m s t kk cs ct ck : Nat} {M : List Bool} {gs : List Gp} (h : MB B w m s t kk cs ct ck M gs) {L : List Bk} (ho : Okl M.length L) (hcv : ∀ x, covB L x = M.getD x false) (hgl : gs.length ≤ 64) (hgn : M.length ≤ gs.length * 8) (x : Int) (hx : 0 ≤ x) (o : Nat) (h3 : o ≤ 3) {res : Option Bk} (hz : Zp gs L x o res) :
    Calls Tryd.prog 15 #[.pointer (some ⟨m, 0, none⟩), .int .i64 x, .int .i64 o] w (RTakeZ B w m s t kk cs ct ck M gs x o res) := by
  obtain ⟨m1, hm1, hcase⟩ : ∃ m1, Bst true (Cn gs L (some x) o) m1 ∧ ((∃ r, m1 = some r ∧ res = some r) ∨ (m1 = none ∧ Bst false (Cn gs L none o) res)) := by
    rcases hz with ⟨r, e, hb⟩ | ⟨hb, hb'⟩
    · exact ⟨_, hb, Or.inl ⟨r, rfl, e⟩⟩
    · exact ⟨_, hb, Or.inr ⟨rfl, hb'⟩⟩
  have hA := refBest_true h ho hcv hgl hgn (some x) x (Or.inr ⟨rfl, hx⟩) o hm1
  have hmx := ho.max
  have HM : Hid (MB B w m s t kk cs ct ck M gs) := h
  have HO : Hid (Okl M.length L) := ho
  have HP : Hid (Zp gs L x o res) := hz
  have HG : Hid (gs.length ≤ 64 ∧ M.length ≤ gs.length * 8) := ⟨hgl, hgn⟩
  have HC : Hid (∀ x, covB L x = M.getD x false) := hcv
  clear h ho hcv hz hm1 hgn
  rcases hcase with ⟨r, rfl, rfl⟩ | ⟨rfl, hg⟩
  · have hblk := HP.out.block HO.out
    obtain ⟨f, ro⟩ := r
    simp only at hblk
    obtain ⟨gi, hgi⟩ : ∃ gi, f / 8 = gi := ⟨_, rfl⟩
    have HGI : Hid (f / 8 = gi) := hgi
    rw [hgi] at hblk
    have HBL : Hid (alB (f, o) ∧ bend (f, o) ≤ M.length ∧ allB L (f, o) true ∧ gi < gs.length ∧ (gs.getD gi (0, false)).2 = false) := hblk
    have hr8 := hblk.2.2.2.1
    have hr5 : f ≤ 512 := by have := hblk.2.1; have : bend (f, o) = f + 2 ^ o := rfl; omega
    have hgz : (gi : Int) < (gs.length : Int) := by omega
    have hg0 : ¬ (gi : Int) < 0 := by omega
    unfold BestP at hA
    simp only [ouA, grA, bval] at hA
    rw [hgi] at hA
    clear hblk hgi
    go_enter Tryd.func15, Tryd.ntmps15
    go_wp2_with fail
    refine hA.mono ?_
    rintro e w1 ⟨rfl, hb1⟩
    obtain ⟨q, hq⟩ : ∃ q, w1.heap.size = q := ⟨_, rfl⟩
    obtain ⟨W, hW⟩ : ∃ W, w1.alloc (.cells #[.int .i64 f, .int .i64 ro] 56) = W := ⟨_, rfl⟩
    have hbW : Below w.heap.size w W := by rw [← hW]; exact hb1.alloc hb1.size _
    have hqW : q < W.heap.size := by rw [← hW]; simp [hq]
    have LW : Laid W q 56 #[.int .i64 f, .int .i64 ro] := by rw [← hW, ← hq]; exact Laid.new _ _ _
    have hwq : w.heap.size ≤ q := by rw [← hq]; exact hb1.size
    have MW := HM.out.below hbW
    obtain ⟨-, c1, -⟩ := MW.cells
    obtain ⟨g0, -, gf, -⟩ := MW.grp hr8
    have gfi := gf gi
    have htl := (MW.lt t (Or.inr (Or.inr (Or.inl rfl)))).2
    have M2 := MW.setT gi x hr8
    obtain ⟨d0, -, -⟩ := M2.cells
    have hqt : ¬ q = t := fun e => by have := (HM.out.lt t (Or.inr (Or.inr (Or.inl rfl)))).2; omega
    have L2 : Laid (W.setCell ⟨t, gi, none⟩ (.int .i64 x)) q 56 #[.int .i64 f, .int .i64 ro] := (heap_setCell_other W _ q _ hqt).trans LW
    have e0 := L2.cell 0
    simp at e0
    have K2 : Keeps w (W.setCell ⟨t, gi, none⟩ (.int .i64 x)) (mf m s t kk) := (Keeps.of_below hbW _).trans ((Keeps.set W t _ _).mono fun b _ e => Or.inr (Or.inr (Or.inl e))) fun _ _ e => e
    have hdr : Below (W.setCell ⟨t, gi, none⟩ (.int .i64 x)).heap.size (W.setCell ⟨t, gi, none⟩ (.int .i64 x)) (W.setCell ⟨t, gi, none⟩ (.int .i64 x)).drew := (Below.refl _ _).drew
    have hT := rt_tail (M2.below hdr) (K2.trans (Keeps.of_below hdr (fun _ => False)) fun _ _ e => e.elim) hmx (f := f) (show o ≤ 5 by omega) HBL.out.2.1 false
    rw [HBL.out.2.2.2.2] at hT
    have hqs : ¬ q = s := fun e => by have := (HM.out.lt s (Or.inr (Or.inl rfl))).2; omega
    have hms : ¬ m = s := HM.out.nes.1
    have hqW2 : q < (W.setCell ⟨t, gi, none⟩ (.int .i64 x)).heap.size := by simpa using hqW
    have hml : m < (W.setCell ⟨t, gi, none⟩ (.int .i64 x)).heap.size := M2.laid.lt
    clear hA hb1 MW gf M2 L2 LW hqt hbW hqW hwq K2 hdr
    go_wp2_with fail
    clear hW hq
    go_region_held3 (fun w' => w'.cell? ⟨m, 0, none⟩ = some (.slice (some ⟨s, 0, none⟩) M.length cs) ∧ w'.cell? ⟨q, 0, none⟩ = some (.int .i64 f)) (go_keep) (first | (go_at_call 18; refine hT.mono ?_; rintro e w3 ⟨rfl, M3, K3, E3⟩; have y0 := E3 q 0 hqs hqW2; have y1 := E3 m 0 hms hml))
    have y0' : w3.cell? ⟨q, 0, none⟩ = some (.int .i64 f) := y0.trans e0
    have HX : Hid (MB B w3 m s t kk cs ct ck (setK M f (2 ^ o) false) (gs.set gi (x, false)) ∧ Keeps w w3 (mf m s t kk)) := ⟨M3, K3⟩
    clear hT M3 K3 E3 y0 y1 c1 g0 d0 e0 gfi htl hqW2 hml
    go_wp2
    go_ret
    exact ⟨rfl, by rw [HGI.out]; exact HX.out.1, HX.out.2⟩
  · unfold BestP at hA
    simp only [ouA, grA, bval] at hA
    go_enter Tryd.func15, Tryd.ntmps15
    go_wp2_with fail
    refine hA.mono ?_
    rintro e w1 ⟨rfl, hb1⟩
    obtain ⟨q, hq⟩ : ∃ q, w1.heap.size = q := ⟨_, rfl⟩
    have hb2 : Below w.heap.size w (w1.alloc (.cells #[.int .i64 0, .int .i64 0] 56)) := hb1.alloc hb1.size _
    have L1 : Laid (w1.alloc (.cells #[.int .i64 0, .int .i64 0] 56)) q 56 #[.int .i64 0, .int .i64 0] := by rw [← hq]; exact Laid.new _ _ _
    have hG := refBest_false (HM.out.below hb2) HO.out HC.out hgl HG.out.2 none (-1) (Or.inl ⟨rfl, rfl⟩) o hg
    have hwq : w.heap.size ≤ q := by rw [← hq]; exact hb1.size
    have HB2 : Hid (Below w.heap.size w (w1.alloc (.cells #[.int .i64 0, .int .i64 0] 56)) ∧ Laid (w1.alloc (.cells #[.int .i64 0, .int .i64 0] 56)) q 56 #[.int .i64 0, .int .i64 0] ∧ w.heap.size ≤ q) := ⟨hb2, L1, hwq⟩
    clear hA hb1 hb2 L1 hwq
    unfold BestP at hG
    cases res with
    | none =>
      simp only [ouA, grA, bval] at hG
      go_wp2_with fail
      refine hG.mono ?_
      rintro e w2 ⟨rfl, hb3⟩
      obtain ⟨k1, k2, k3⟩ := HB2.out
      have L2 := k2.below hb3
      have r0 := L2.cell 0
      have r1 := L2.cell 1
      have rf0 := L2.frozen 0
      have rf1 := L2.frozen 1
      have rl := L2.lt
      simp at r0 r1
      have HX : Hid (∀ W, Keeps w2 W (fun b => b = q) → MB B W m s t kk cs ct ck M gs ∧ Keeps w W (mf m s t kk)) := fun W hk => by
        have hb4 := below_call' k1 hb3
        have hb5 : Below w.heap.size w W := hb4.trans (hk.below hb4.size fun c _ e => by rw [e]; exact k3)
        exact ⟨HM.out.below hb5, Keeps.of_below hb5 _⟩
      have HKK : Hid (∀ u v, Keeps w2 ((w2.setCell ⟨q, 0, none⟩ u).setCell ⟨q, 1, none⟩ v) (fun b => b = q)) := fun u v => (Keeps.set _ _ _ _).trans (Keeps.set _ _ _ _) fun _ _ h => h
      clear hG hb3 k1 k2 k3 L2
      go_wp2
      go_ret
      exact ⟨rfl, (HX.out _ (HKK.out _ _)).1, (HX.out _ (HKK.out _ _)).2⟩
    | some r =>
      have hblk := HP.out.block HO.out
      obtain ⟨f, ro⟩ := r
      simp only at hblk
      obtain ⟨gi, hgi⟩ : ∃ gi, f / 8 = gi := ⟨_, rfl⟩
      have HGI : Hid (f / 8 = gi) := hgi
      rw [hgi] at hblk
      have HBL : Hid (alB (f, o) ∧ bend (f, o) ≤ M.length ∧ allB L (f, o) true ∧ gi < gs.length ∧ (gs.getD gi (0, false)).2 = false) := hblk
      have hr8 := hblk.2.2.2.1
      have hr5 : f ≤ 512 := by have := hblk.2.1; have : bend (f, o) = f + 2 ^ o := rfl; omega
      have hgz : (gi : Int) < (gs.length : Int) := by omega
      have hg0 : ¬ (gi : Int) < 0 := by omega
      simp only [ouA, grA, bval] at hG
      rw [hgi] at hG
      clear hblk hgi
      go_wp2_with fail
      refine hG.mono ?_
      rintro e w2 ⟨rfl, hb3⟩
      obtain ⟨k1, k2, hwq⟩ := HB2.out
      have L3 := k2.below hb3
      have r0 := L3.cell 0
      have r1 := L3.cell 1
      have rf0 := L3.frozen 0
      have rf1 := L3.frozen 1
      have rl := L3.lt
      simp at r0 r1
      obtain ⟨W, hW⟩ : ∃ W, (w2.setCell ⟨q, 0, none⟩ (.int .i64 f)).setCell ⟨q, 1, none⟩ (.int .i64 ro) = W := ⟨_, rfl⟩
      have hbW : Below w.heap.size w W := by
        have hb4 := below_call' k1 hb3
        rw [← hW]
        exact hb4.trans (((Keeps.set _ _ _ _).trans (Keeps.set _ _ _ _) fun _ _ h => h : Keeps w2 _ (fun b => b = q)).below hb4.size fun c _ e => by rw [e]; exact hwq)
      have hqW : q < W.heap.size := by rw [← hW]; simpa using rl
      have LW : Laid W q 56 #[.int .i64 f, .int .i64 ro] := by
        have e4 := heap_setCell_same (w2.setCell ⟨q, 0, none⟩ (.int .i64 f)) q 1 _ _ (.int .i64 ro) (heap_setCell_same w2 q 0 _ _ (.int .i64 f) L3)
        rw [← hW]
        simpa [Laid] using e4
      have MW := HM.out.below hbW
      obtain ⟨-, c1, -⟩ := MW.cells
      obtain ⟨g0, -, gf, -⟩ := MW.grp hr8
      have gfi := gf gi
      have htl := (MW.lt t (Or.inr (Or.inr (Or.inl rfl)))).2
      have M2 := MW.setT gi x hr8
      obtain ⟨d0, -, -⟩ := M2.cells
      have hqt : ¬ q = t := fun e => by have := (HM.out.lt t (Or.inr (Or.inr (Or.inl rfl)))).2; omega
      have L2 : Laid (W.setCell ⟨t, gi, none⟩ (.int .i64 x)) q 56 #[.int .i64 f, .int .i64 ro] := (heap_setCell_other W _ q _ hqt).trans LW
      have e0 := L2.cell 0
      simp at e0
      have K2 : Keeps w (W.setCell ⟨t, gi, none⟩ (.int .i64 x)) (mf m s t kk) := (Keeps.of_below hbW _).trans ((Keeps.set W t _ _).mono fun b _ e => Or.inr (Or.inr (Or.inl e))) fun _ _ e => e
      have hdr : Below (W.setCell ⟨t, gi, none⟩ (.int .i64 x)).heap.size (W.setCell ⟨t, gi, none⟩ (.int .i64 x)) (W.setCell ⟨t, gi, none⟩ (.int .i64 x)).drew := (Below.refl _ _).drew
      have hT := rt_tail (M2.below hdr) (K2.trans (Keeps.of_below hdr (fun _ => False)) fun _ _ e => e.elim) hmx (f := f) (show o ≤ 5 by omega) HBL.out.2.1 false
      rw [HBL.out.2.2.2.2] at hT
      have hqs : ¬ q = s := fun e => by have := (HM.out.lt s (Or.inr (Or.inl rfl))).2; omega
      have hms : ¬ m = s := HM.out.nes.1
      have hqW2 : q < (W.setCell ⟨t, gi, none⟩ (.int .i64 x)).heap.size := by simpa using hqW
      have hml : m < (W.setCell ⟨t, gi, none⟩ (.int .i64 x)).heap.size := M2.laid.lt
      clear hG hb3 k1 k2 L3 MW gf M2 L2 LW hqt hbW hqW hwq K2 hdr
      go_wp2_with fail
      clear hW hq r0 r1 rf0 rf1 rl
      go_region_held3 (fun w' => w'.cell? ⟨m, 0, none⟩ = some (.slice (some ⟨s, 0, none⟩) M.length cs) ∧ w'.cell? ⟨q, 0, none⟩ = some (.int .i64 f)) (go_keep) (first | (go_at_call 18; refine hT.mono ?_; rintro e w3 ⟨rfl, M3, K3, E3⟩; have y0 := E3 q 0 hqs hqW2; have y1 := E3 m 0 hms hml))
      have y0' : w3.cell? ⟨q, 0, none⟩ = some (.int .i64 f) := y0.trans e0
      have HX : Hid (MB B w3 m s t kk cs ct ck (setK M f (2 ^ o) false) (gs.set gi (x, false)) ∧ Keeps w w3 (mf m s t kk)) := ⟨M3, K3⟩
      clear hT M3 K3 E3 y0 y1 c1 g0 d0 e0 gfi htl hqW2 hml
      go_wp2
      go_ret
      exact ⟨rfl, by rw [HGI.out]; exact HX.out.1, HX.out.2⟩
end Go.Proofs.YtmmbfgkfidconaaDoor
/- The document's zone: Open, walked. -/
namespace Go.Proofs.YtmmbfgkfidconaaDoor
open Go.RowKit

/-- Open's answer. -/
def ROpenZ (B : Nat) (w : World) (m s t k cs ct ck : Nat) (M : List Bool) (gs : List Gp) (e : Ending) (w' : World) : Prop := e = .returned (.tuple #[]) ∧ MB B w' m s t k cs ct ck M gs ∧ Keeps w w' (mf m s t k)
set_option maxRecDepth 100000 in
set_option maxHeartbeats 8000000 in
theorem refOpen_any {B : Nat} {w : World} {m s t kk cs ct ck : Nat} {M : List Bool} {gs : List Gp} (h : MB B w m s t kk cs ct ck M gs) (hmx : M.length ≤ 512) (k : Nat) (hk : k < gs.length) (hk6 : gs.length ≤ 64) (r : Bool) (hr : r = true ↔ ∀ x, k * 8 ≤ x → x < min ((k + 1) * 8) M.length → M.getD x false = true) :
    Calls Tryd.prog 22 #[.pointer (some ⟨m, 0, none⟩), .int .i64 k] w (ROpenZ B w m s t kk cs ct ck M (openG gs k r)) := by
  obtain ⟨c0, c1, c2⟩ := h.cells
  obtain ⟨-, g1, -, gf⟩ := h.grp hk
  have hkz : (k : Int) < (gs.length : Int) := by omega
  have gfk := gf k
  have hkl := (h.lt kk (Or.inr (Or.inr (Or.inr rfl)))).2
  obtain ⟨W, hW⟩ : ∃ W, w.setCell ⟨kk, k, none⟩ (.bool false) = W := ⟨_, rfl⟩
  have M1 : MB B W m s t kk cs ct ck M (gs.set k ((gs.getD k (0, false)).1, false)) := by rw [← hW]; exact h.setK k false hk
  have K1 : Keeps w W (mf m s t kk) := by rw [← hW]; exact (Keeps.set w kk _ _).mono fun b _ e => Or.inr (Or.inr (Or.inr e))
  have hkl1 : k < (gs.set k ((gs.getD k (0, false)).1, false)).length := by simpa using hk
  have HX : Hid (MB B W m s t kk cs ct ck M (gs.set k ((gs.getD k (0, false)).1, false)) ∧ Keeps w W (mf m s t kk)) := ⟨M1, K1⟩
  have HY : Hid (MB B (W.setCell ⟨t, k, none⟩ (.int .i64 1)) m s t kk cs ct ck M (gs.set k (1, false)) ∧ Keeps w (W.setCell ⟨t, k, none⟩ (.int .i64 1)) (mf m s t kk)) := by
    have := M1.setT k 1 hkl1
    rw [getD_set gs hk, set_set] at this
    exact ⟨this, K1.trans ((Keeps.set W t _ _).mono fun b _ e => Or.inr (Or.inr (Or.inl e))) fun _ _ e => e⟩
  obtain ⟨d0, d1, -⟩ := M1.cells
  rw [List.length_set] at d1
  obtain ⟨p0, -, pf, -⟩ := M1.grp hkl1
  have pfk := pf k
  have htl := (M1.lt t (Or.inr (Or.inr (Or.inl rfl)))).2
  have HR : Hid (r = true ↔ ∀ x, k * 8 ≤ x → x < min ((k + 1) * 8) M.length → M.getD x false = true) := hr
  have HW : Hid (w.setCell ⟨kk, k, none⟩ (.bool false) = W) := hW
  clear h gf pf M1 K1 hr c0 c1 hk hkl1
  go_enter Tryd.func22, Tryd.ntmps22
  go_wp2_with fail
  clear hW c2 g1 gfk hkl
  go_loopw [4] (fun iv w' => ∃ i : Nat, i ≤ 8 ∧ iv = .int .i64 i ∧ w' = W ∧ Hid (∀ x, k * 8 ≤ x → x < k * 8 + i → x < M.length → M.getD x false = true)) (fun iv _ => 8 - (intOf iv).toNat)
  case atStart => exact ⟨0, by omega, rfl, rfl, (fun x h1 h2 => by omega : ∀ x, k * 8 ≤ x → x < k * 8 + 0 → x < M.length → M.getD x false = true)⟩
  case round =>
    obtain ⟨i, hi, rfl, rfl, HI⟩ := hrel
    rcases (show (i < 8 ∧ k * 8 + i < M.length) ∨ (i < 8 ∧ ¬ k * 8 + i < M.length) ∨ ¬ i < 8 by omega) with ⟨h1, h2⟩ | hex
    · have h1z : (i : Int) < 8 := by omega
      have h2z : (k : Int) * 8 + (i : Int) < (M.length : Int) := by omega
      obtain ⟨g', e', -, -, hg', -, -, hat⟩ := HX.out.1.rs.at h2
      cases e'
      have x0 := rO.at hat
      simp only [show rO.n = 1 from rfl, show rO.zero = false from rfl, Nat.mul_one] at x0
      have htn : ((k : Int) * 8 + (i : Int)).toNat = k * 8 + i := by omega
      have h0 : (0 : Int) ≤ (k : Int) * 8 + (i : Int) := by omega
      clear hat
      cases hm : M.getD (k * 8 + i) false with
      | true =>
        rw [hm] at x0
        have HI2 : Hid (∀ x, k * 8 ≤ x → x < k * 8 + (i + 1) → x < M.length → M.getD x false = true) := fun x a b c => by
          rcases Nat.lt_or_ge x (k * 8 + i) with h' | h'
          · exact HI.out x a h' c
          · rw [show x = k * 8 + i by omega]; exact hm
        clear HI hm
        go_wp2
        go_roundw
        case rel => exact ⟨i + 1, by omega, by go_num, by first | rfl | trivial, HI2⟩
        case measure => simp only [intOf]; omega
      | false =>
        rw [hm] at x0
        have hrf : r = false := by
          cases r with
          | false => rfl
          | true =>
            have := HR.out.1 rfl (k * 8 + i) (by omega) (by omega)
            rw [hm] at this
            cases this
        subst hrf
        clear hm
        go_wp2
        go_end0
        exact ⟨rfl, HX.out.1, HX.out.2⟩
    · have hrt : r = true := HR.out.2 fun x a b => HI.out x a (by omega) (by omega)
      subst hrt
      rcases hex with ⟨h1, h2⟩ | h1
      · have h1z : (i : Int) < 8 := by omega
        have h2z : ¬ (k : Int) * 8 + (i : Int) < (M.length : Int) := by omega
        go_wp2
        go_end0
        exact ⟨rfl, HY.out.1, HY.out.2⟩
      · have h1z : ¬ (i : Int) < 8 := by omega
        go_wp2
        go_end0
        exact ⟨rfl, HY.out.1, HY.out.2⟩
end Go.Proofs.YtmmbfgkfidconaaDoor
/- same: a store's blocks are the document's. -/
namespace Go.Proofs.YtmmbfgkfidconaaDoor
open Go.RowKit

theorem neg_free (L : List Bk) : freeB L (-1) = false := by
  unfold freeB
  rw [decide_eq_false (by omega), Bool.false_and]
theorem end_free {n : Nat} {L : List Bk} (ho : Okl n L) : freeB L n = false := by
  unfold freeB
  rw [Int.toNat_natCast, (covB_false L n).2 ?_, Bool.and_false]
  rintro ⟨b, hb, h1, h2⟩
  have := ho.top b hb
  omega
theorem nat_free (L : List Bk) (x : Nat) : freeB L x = covB L x := by
  unfold freeB
  rw [decide_eq_true (by omega), Bool.true_and, Int.toNat_natCast]

end Go.Proofs.YtmmbfgkfidconaaDoor
/- same: a zone is the document's. -/
namespace Go.Proofs.YtmmbfgkfidconaaDoor
open Go.RowKit

set_option maxRecDepth 100000 in
set_option maxHeartbeats 8000000 in
theorem same8_any {F : Nat → Prop} {B : Nat} {w : World} {z m s t kk cs ct ck : Nat} {M : List Bool} {L : List Bk} {gs : List Gp} (hz : Zo F w z M.length L gs) (hm : MB B w m s t kk cs ct ck M gs) (hcv : ∀ x, covB L x = M.getD x false) :
    Calls Tryd.prog 10 #[.pointer (some ⟨z, 0, none⟩), .pointer (some ⟨m, 0, none⟩)] w fun e w' => e = .returned (.bool true) ∧ Below w.heap.size w w' := by
  obtain ⟨FZ, p, g, c, v, hz⟩ := hz
  have ho := hz.ok
  have hF := zfree_any hz
  have hG := fun w (hm : MB B w m s t kk cs ct ck M gs) => refFree_any hm.rs ho rfl hcv
  have hlen := ho.len
  have hgl := hz.len
  have hmx := ho.max
  have HZ : Hid (ZB F FZ w z p g c M.length v L gs) := hz
  have HM : Hid (MB B w m s t kk cs ct ck M gs) := hm
  have HC : Hid (∀ x, covB L x = M.getD x false) := hcv
  have HEF : Hid (freeB L M.length = false) := end_free ho
  have HGL : Hid (gs.length = (M.length + 7) / 8) := hgl
  have hg6 : gs.length ≤ 64 := by omega
  clear hz hm hcv ho hgl
  go_enter Tryd.func10, Tryd.ntmps10
  go_wp2_with fail
  refine hF.mono ?_
  rintro e w1 ⟨vl, rfl, R1, hb1⟩
  have hG1 := hG w1 (HM.out.below hb1)
  obtain ⟨c0, -, -⟩ := (HM.out.below hb1).cells
  obtain ⟨al, cl, rfl⟩ := R1.form
  clear hF hG
  go_wp2_with fail
  refine hG1.mono ?_
  rintro e w2 ⟨vk, rfl, R2, hb2⟩
  obtain ⟨ak, ck2, rfl⟩ := R2.form
  have hB2 := below_call' hb1 hb2
  have HR2 : Hid (Row rB w.heap.size w2 (.slice al L.length cl) L ∧ Row rB w1.heap.size w2 (.slice ak L.length ck2) L ∧ Below w.heap.size w w2) := ⟨R1.below hb2, R2, hB2⟩
  obtain ⟨-, c1, -⟩ := (HM.out.below hB2).cells
  have hGr := zgroups_any ((HZ.out.below hB2).below (Below.refl _ _).drew)
  clear hG1 R1 R2 hb1 hb2 hB2 c0
  go_wp2_with fail
  go_region_held3 (fun w' => w'.cell? ⟨m, 1, none⟩ = some (.slice (some ⟨t, 0, none⟩) gs.length ct)) (go_keep) (first | (go_at_call 24; refine hGr.mono ?_; rintro e w5 ⟨rfl, hw⟩; obtain rfl := hw.symm; clear hw))
  have HR3 : Hid (Row rB w.heap.size w2.drew (.slice al L.length cl) L ∧ Row rB w1.heap.size w2.drew (.slice ak L.length ck2) L ∧ Below w.heap.size w w2.drew) := ⟨HR2.out.1.below (Below.refl _ _).drew, HR2.out.2.1.below (Below.refl _ _).drew, HR2.out.2.2.drew⟩
  clear HR2 hGr c1
  go_wp2_with fail
  go_loopw [7] (fun iv W => ∃ j : Nat, j ≤ L.length ∧ iv = .int .i64 j ∧ Hid (Below w2.drew.heap.size w2.drew W)) (fun iv _ => L.length - (intOf iv).toNat)
  case atStart => exact ⟨0, Nat.zero_le _, rfl, Below.refl _ _⟩
  case round =>
    obtain ⟨j, hj, rfl, HJ⟩ := hrel
    by_cases hjl : j < L.length
    · have hjz : (j : Int) < (L.length : Int) := by omega
      obtain ⟨ga, rfl, -, -, hga, -, -, ata⟩ := (HR3.out.1.below HJ.out).at hjl
      obtain ⟨gb, rfl, -, -, hgb, -, -, atb⟩ := (HR3.out.2.1.below HJ.out).at hjl
      obtain ⟨x0, x1⟩ := rB.at ata
      obtain ⟨y0, y1⟩ := rB.at atb
      simp only [show rB.n = 2 from rfl, show rB.zero = (0, 0) from rfl] at x0 x1 y0 y1
      have hne := fun w => neq_run (L.getD j (0, 0)) (L.getD j (0, 0)) w
      rw [show (!decide (L.getD j (0, 0) = L.getD j (0, 0))) = false by simp] at hne
      unfold bval at hne
      generalize L.getD j (0, 0) = bj at *
      clear ata atb
      go_wp2
      go_quiet (fail)
      go_wp2
      go_roundw
      case rel => exact ⟨j + 1, by omega, by go_num, below_drewN HJ.out _⟩
      case measure => simp only [intOf]; omega
    · obtain rfl : j = L.length := by omega
      have HB3 : Hid (Below w.heap.size w wr) := below_call' HR3.out.2.2 HJ.out
      clear HR3 HJ
      go_wp2_with fail
      go_loopw [8] (fun iv W => ∃ i : Nat, i ≤ gs.length ∧ iv = .int .i64 i ∧ Hid (Below w.heap.size w W)) (fun iv _ => gs.length - (intOf iv).toNat)
      case atStart => exact ⟨0, Nat.zero_le _, rfl, HB3⟩
      case round =>
        obtain ⟨i, hi, rfl, HB⟩ := hrel
        clear HB3
        have Z1 := HZ.out.below HB.out
        have M1 := HM.out.below HB.out
        obtain ⟨c0, c1, c2⟩ := M1.cells
        by_cases hil : i < gs.length
        · have hiz : (i : Int) < (gs.length : Int) := by omega
          obtain ⟨j8, hj8⟩ : ∃ j8, i * 8 = j8 := ⟨_, rfl⟩
          have hin : j8 < M.length := by have := HGL.out; omega
          have hinz : (j8 : Int) < (M.length : Int) := by omega
          have hz8 : (i : Int) * 8 = (j8 : Int) := by omega
          have hwr : IntKind.i64.wrap (j8 : Int) = (j8 : Int) := by rw [IntKind.wrap_i64]; omega
          obtain ⟨g0, g1, -, -⟩ := M1.grp hil
          obtain ⟨g', e', -, -, hg', -, -, hat⟩ := M1.rs.at hin
          cases e'
          have m0 := rO.at hat
          simp only [show rO.n = 1 from rfl, show rO.zero = false from rfl, Nat.mul_one] at m0
          have hSo := zsort_yes Z1 i hil
          have hCl := zclosed_any (Z1.below (Below.refl _ _).drew) (i : Int)
          rw [gclB_nat gs hil] at hCl
          have hFr := zisFree_any (Z1.below (Below.refl _ _).drew) (j8 : Int)
          rw [nat_free, HC.out] at hFr
          have hml := M1.laid.lt
          have htl := (M1.lt t (Or.inr (Or.inr (Or.inl rfl)))).2
          have hkl := (M1.lt kk (Or.inr (Or.inr (Or.inr rfl)))).2
          generalize gs.getD i (0, false) = gi at *
          generalize M.getD j8 false = mi at *
          obtain ⟨gt, gc⟩ := gi
          simp only at g0 g1 hSo hCl
          clear Z1 M1 hat hj8
          go_wp2_with (go_at_call 25; refine hSo.mono ?_; rintro e w5 ⟨rfl, hw⟩; obtain rfl := hw.symm; clear hw)
          clear hSo
          go_region_held3 (fun w' => w'.cell? ⟨m, 0, none⟩ = some (.slice (some ⟨s, 0, none⟩) M.length cs) ∧ w'.cell? ⟨m, 1, none⟩ = some (.slice (some ⟨t, 0, none⟩) gs.length ct) ∧ w'.cell? ⟨m, 2, none⟩ = some (.slice (some ⟨kk, 0, none⟩) gs.length ck) ∧ w'.cell? ⟨t, i, none⟩ = some (.int .i64 gt) ∧ w'.cell? ⟨kk, i, none⟩ = some (.bool gc) ∧ w'.cell? ⟨s, j8, none⟩ = some (.bool mi)) (go_keep) (first | (go_at_call 23; refine hCl.mono ?_; rintro e w5 ⟨rfl, hw⟩; obtain rfl := hw.symm; clear hw) | (go_at_call 26; refine hFr.mono ?_; rintro e w6 ⟨rfl, hb6⟩; have hx6 : ∀ b o, b < wr.heap.size → w6.cell? ⟨b, o, none⟩ = wr.cell? ⟨b, o, none⟩ := (fun b o h => (bcell hb6).1 b o h)))
          have HB6 : Hid (Below w.heap.size w w6) := below_call' HB.out ((Below.refl _ _).drew.trans hb6)
          clear hx6 hb6 hCl hFr HB g0 g1 m0 c0 c1 c2 hz8
          go_wp2
          go_roundw
          case rel => exact ⟨i + 1, by omega, by go_num, HB6⟩
          case measure => simp only [intOf]; omega
        · obtain rfl : i = gs.length := by omega
          have hSo := zsort_no Z1 (gs.length : Int) (by omega)
          have hCl := zclosed_any Z1 (-1)
          rw [gclB_no gs (by omega)] at hCl
          have hFr := zisFree_any Z1 (M.length : Int)
          rw [HEF.out] at hFr
          have he := eq_err 1
          clear Z1 M1
          go_wp2_with (first | (go_at_call 25; refine hSo.mono ?_; rintro e w5 ⟨rfl, hw⟩; obtain rfl := hw.symm; clear hw) | (go_at_call 23; refine hCl.mono ?_; rintro e w5 ⟨rfl, hw⟩; obtain rfl := hw.symm; clear hw))
          refine hFr.mono ?_
          rintro e w7 ⟨rfl, hb7⟩
          have HB7 : Hid (Below w.heap.size w w7) := below_call' HB.out hb7
          clear hFr hb7 HB hSo hCl c0 c1 c2
          go_wp2
          go_ret
          exact ⟨rfl, HB7.out⟩
end Go.Proofs.YtmmbfgkfidconaaDoor
/- BuddyNew, walked. -/
namespace Go.Proofs.YtmmbfgkfidconaaDoor
open Go.RowKit

theorem new_model {n : Nat} (h : n ≤ 512) (x : Nat) : covB (blkL 0 n) x = (List.replicate n true).getD x false := by
  have hc := new_cov h x
  rw [List.getD_eq_getElem?_getD, List.getElem?_replicate]
  by_cases hx : x < n
  · rw [if_pos hx, (covB_iff _ _).2 (hc.2 hx)]
    rfl
  · rw [if_neg hx, (covB_false _ _).2 fun e => hx (hc.1 e)]
    rfl

end Go.Proofs.YtmmbfgkfidconaaDoor
/- ZoneNew, walked. -/
namespace Go.Proofs.YtmmbfgkfidconaaDoor
open Go.RowKit

set_option maxRecDepth 100000 in
set_option maxHeartbeats 4000000 in
theorem walk_zoneNew (a0 : Int) (w : World) (hT : Tab w) (_b0 : -9223372036854775808 ≤ a0 ∧ a0 ≤ 9223372036854775807) :
    Calls Tryd.prog 3 #[.int .i64 a0] w fun e w' => e = .returned (.bool true) ∧ Below w.heap.size w w' := by
  have hU := up8_any w hT
  by_cases h : 1 ≤ a0 ∧ a0 ≤ 512
  · obtain ⟨n, rfl⟩ : ∃ n : Nat, a0 = n := ⟨a0.toNat, by omega⟩
    have h1 : ¬ (n : Int) < 1 := by omega
    have h2 : ¬ (512 : Int) < (n : Int) := by omega
    have hn1 : 1 ≤ n := by omega
    have hn2 : n ≤ 512 := by omega
    have hR := fun w => refNewZ_any n w hn1 hn2
    have HT : Hid (Tab w) := hT
    have HM : Hid (∀ x, covB (blkL 0 n) x = (List.replicate n true).getD x false) := new_model (by omega)
    clear hT h
    go_enter Tryd.func3, Tryd.ntmps3
    go_wp2_with fail
    refine hU.mono ?_
    rintro e w1 ⟨rfl, hb1⟩
    have hN := znNew (G := fun _ => False) HT.out hb1 (fun _ h => h.elim) n hn1 hn2
    generalize blkL 0 n = L at *
    clear hU
    go_wp2_with fail
    refine hN.mono ?_
    rintro e w2 ⟨z, rfl, Z2, -⟩
    clear hN hb1
    go_wp2_with fail
    refine (hR _).mono ?_
    rintro e w3 ⟨m, s, t, k, cs, ct, ck, rfl, M3, hb3⟩
    have Z3 := Z2.below hb3
    obtain ⟨F, -, -, Z4, HB, -⟩ := Z3
    have hl : (List.replicate n true).length = n := by simp
    have Z5 : Zo F w3 z (List.replicate n true).length L (List.replicate ((n + 7) / 8) (1, false)) := by rw [hl]; exact Z4
    have hS := same8_any Z5 M3 HM.out
    have HB3 : Hid (Below w.heap.size w w3) := HB
    clear hR M3 Z2 Z4 Z5 hb3 HB hl
    go_wp2_with fail
    refine hS.mono ?_
    rintro e w4 ⟨rfl, hb4⟩
    clear hS
    go_wp2
    go_ret
    exact ⟨rfl, below_call' HB3.out hb4⟩
  · have hN := fun w => znew_no a0 w h
    have he := eq_err 1
    by_cases h1 : a0 < 1
    · clear hT h
      go_enter Tryd.func3, Tryd.ntmps3
      go_wp2_with fail
      refine hU.mono ?_
      rintro e w1 ⟨rfl, hb1⟩
      clear hU
      go_wp2_with (go_at_call 9; refine (hN _).mono ?_; rintro e w5 ⟨rfl, hw⟩; obtain rfl := hw.symm; clear hw)
      go_ret
      exact ⟨rfl, hb1⟩
    · have h2 : (512 : Int) < a0 := by omega
      clear hT h
      go_enter Tryd.func3, Tryd.ntmps3
      go_wp2_with fail
      refine hU.mono ?_
      rintro e w1 ⟨rfl, hb1⟩
      clear hU
      go_wp2_with (go_at_call 9; refine (hN _).mono ?_; rintro e w5 ⟨rfl, hw⟩; obtain rfl := hw.symm; clear hw)
      go_ret
      exact ⟨rfl, hb1⟩
end Go.Proofs.YtmmbfgkfidconaaDoor
