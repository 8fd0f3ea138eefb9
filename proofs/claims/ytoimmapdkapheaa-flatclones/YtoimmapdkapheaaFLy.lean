/- The document's Lay. -/
import Derived.Test.YtoimmapdkapheaaFTurn
namespace Go.Proofs.Ytoimmapdkapheaa
set_option maxRecDepth 4000
open Go.RowKit

theorem list_appN {P : Program} {α : Type} {R : Rec α} {s : TypeId} (k : Kin P R s) {ops : Array Oper} {rest : List Oper} {o : Oper} {a : Act} {w : World} {Q : Exit → Act → World → Prop} (hg : o.guard = none) (x y : Operand) (ho : o.op = .call { callee := .builtin .append, args := #[x, y], argTypes := #[s, s] })
    (l : List α) {b : Nat} (hv : a.eval x = .slice (some ⟨b, 0, none⟩) 0 0) (ao : Option Addr) (n c : Nat) (hu : a.eval y = .slice ao n c) (hn : l.length = n) (hp : 0 < n) (hm : n ≤ maxLen) (hb : n * R.bytes ≤ 140737488355328) (hL : Laid w b R.t #[]) (hs : Seen R w ao c l)
    (hK : ∀ c' w', Row R w.heap.size w' (.slice (some ⟨w.heap.size, 0, none⟩) n c') l → Below w.heap.size w w' → wpList P ops Q rest (a.put o.dst (.slice (some ⟨w.heap.size, 0, none⟩) n c')) w') : wpList P ops Q (o :: rest) a w :=
  wpList_plain hg fun _ hK' => by
    have := step_appN (ops := #[]) (E := False) (Q := Q) k hg x y ho l hv ao n c hu hn hp hm hb hL hs fun c' w' h1 h2 => hK' _ _ (hK c' w' h1 h2)
    rwa [if_pos (show Region.wanted o (yielded #[] a.tmps) = true by simp [Region.wanted, hg])] at this
theorem wdZ_self (wd : Nat → Nat → Nat) (a : Int) : wdZ wd a a = wd := by
  funext k i
  unfold wdZ
  rw [if_neg (by omega)]
theorem wdZ_step (wd : Nat → Nat → Nat) {a k : Nat} (h : a ≤ k) : wordsA (wdZ wd a ((k + 1 : Nat) : Int)) = (wordsA (wdZ wd a k)).set k (fun _ => 0) := by
  rw [words_set]
  refine words_congr fun j _ => ?_
  funext i
  unfold wdZ
  by_cases e : j = k
  · rw [if_pos e, if_pos (by omega)]
  · rw [if_neg e]
    by_cases c : (a : Int) ≤ (j : Int) ∧ (j : Int) < (k : Int)
    · rw [if_pos c, if_pos (by omega)]
    · rw [if_neg c, if_neg (by omega)]
theorem getD_set {T : Sps} {i : Nat} (hi : i < T.length) (y : SpV × Sp) : (T.set i y).getD i zT = y := by
  rw [List.getD_eq_getElem?_getD, List.getElem?_set_self hi]
  rfl
theorem set_set (T : Sps) (i : Nat) (y z : SpV × Sp) : (T.set i y).set i z = T.set i z := by simp
/-- While the words are cleared. -/
def LyI (F : Nat → Prop) (w : World) (q : Nat) (v : Value) (T : Sps) (i : Nat) (x : SpV) (f : Int → Option Pg) (wd : Nat → Nat → Nat) (W : World) : Prop := Bec F w (FmX q v (T.set i (x, ⟨f, wd⟩))) W
theorem ly_at {F : Nat → Prop} {w W : World} {q g c : Nat} {T : Sps} {i : Nat} {x : SpV} {f : Int → Option Pg} {wd : Nat → Nat → Nat} (h : LyI F w q (.slice (some ⟨g, 0, none⟩) T.length c) T i x f wd W) (hi : i < T.length) :
    W.cell? ⟨q, 0, none⟩ = some (.slice (some ⟨g, 0, none⟩) T.length c) ∧ W.cell? ⟨g, i * 3 + 2, none⟩ = some x.vw ∧ Row rW8 0 W x.vw (wordsA wd) := by
  obtain ⟨A, h1, -⟩ := h.next
  have hi' : i < (T.set i (x, (⟨f, wd⟩ : Sp))).length := by rw [List.length_set]; exact hi
  obtain ⟨g', c', hv, hlt, hat⟩ := fm_at h1 hi'
  rw [List.length_set] at hv
  cases hv
  rw [getD_set hi] at hat
  have h2 := (fm_see h1 hi').2
  rw [getD_set hi] at h2
  exact ⟨by rw [(FmX.box h1).cell]; rfl, (rSp.at hat).2.2, h2⟩
theorem ly_turn {F : Nat → Prop} {w W W' : World} {q g c : Nat} {T : Sps} {i : Nat} {x : SpV} {f : Int → Option Pg} {wd wd' : Nat → Nat → Nat} (h : LyI F w q (.slice (some ⟨g, 0, none⟩) T.length c) T i x f wd W) (hi : i < T.length) (hr : Row rW8 0 W' x.vw (wordsA wd')) (hk : Keeps W W' (fun y => y = x.gw)) :
    LyI F w q (.slice (some ⟨g, 0, none⟩) T.length c) T i x f wd' W' := by
  have hi' : i < (T.set i (x, (⟨f, wd⟩ : Sp))).length := by rw [List.length_set]; exact hi
  have := fm_words (wd' := wd') h hi' (by rw [getD_set hi]; exact hr) (by rw [getD_set hi]; exact hk)
  rw [getD_set hi, set_set] at this
  exact this
theorem ly_end {F : Nat → Prop} {w W : World} {q : Nat} {v : Value} {T : Sps} {A : Wd} {i : Nat} {x : SpV} {f : Int → Option Pg} {wd : Nat → Nat → Nat} (h : LyI F w q v T i x f wd W) (hT : FmOk T A) (hi : i < T.length) (hx : x.n = (T.getD i zT).1.n) (hs : Sp.ok ⟨f, wd⟩) : Bec F w (FmT q (A.set x.n (some ⟨f, wd⟩))) W :=
  h.imp fun {_ _} k => ⟨(v, T.set i (x, ⟨f, wd⟩)), set_ok hT hi hx hs, k⟩
set_option maxRecDepth 100000 in
set_option maxHeartbeats 16000000 in
theorem rlay_any {F : Nat → Prop} {w : World} {q : Nat} {A A' : Wd} {n a b code : Int} {t : Option Pg} (h : (FmT q A).In F w) (hd : LayD A n a b t code A') : Calls Try.prog 29 #[.pointer (some ⟨q, 0, none⟩), .int .i64 n, .int .i64 a, .int .i64 b, pv (pgA t)] w (FmP F w q A' code) := by
  obtain ⟨d, hdt⟩ : ∃ d, pgA t = d := ⟨_, rfl⟩
  rw [hdt]
  obtain ⟨d0, d1, d2, d3⟩ := d
  unfold pv
  simp only
  have HB0 : Below w.heap.size w (w.alloc (.cells #[.bool d0, .bool d1, .bool d2, .bool d3] 72)) := new_below _ _
  have HX0 : Laid (w.alloc (.cells #[.bool d0, .bool d1, .bool d2, .bool d3] 72)) w.heap.size 72 #[.bool d0, .bool d1, .bool d2, .bool d3] := Laid.new _ _ _
  obtain ⟨F0, h0, hcl⟩ := (In.below h HB0).next
  have HR : Hid (Bec F w (FmT q A) (w.alloc (.cells #[.bool d0, .bool d1, .bool d2, .bool d3] 72))) := In.below h HB0
  clear h
  generalize hW : w.alloc (.cells #[.bool d0, .bool d1, .bool d2, .bool d3] 72) = W at *
  obtain ⟨⟨v, T⟩, hT, h⟩ := h0
  simp only at h hT HR
  have HT0 : Hid (pgA t = ⟨d0, d1, d2, d3⟩) := hdt
  clear hdt
  rcases hd with ⟨h1, rfl, rfl⟩ | ⟨s, hs, hd⟩
  · have hf := rfind_no (n := n) (FmX.box h) (FmX.row h) hT.few (by rw [hT.eq]; exact h1)
    clear h hT h1 hcl HB0 HX0
    go_enter Try.func29, Try.ntmps29
    go_wp2_with fail
    refine hf.mono ?_
    rintro e w1 ⟨rfl, hw⟩
    obtain rfl := hw.symm
    clear hw
    go_wp2
    go_ret
    exact ⟨rfl, HR.out⟩
  · obtain ⟨i, hi, hin, his⟩ := lk_mem (T := T) (by rw [hT.eq]; exact hs)
    have hf := rfind_yes (FmX.box h) (FmX.row h) hT.few hT.nod hi hin
    have hsp := fun w => rspan_any a b w
    have hp1 : ¬ (i : Int) < 0 := by omega
    rcases hd with ⟨hn, rfl, rfl⟩ | ⟨hS, M, hM, hd⟩
    · rw [show spanB a b = false by rw [← Bool.not_eq_true, spanB_iff]; exact hn] at hsp
      clear h hT hcl HB0 HX0 hs hi hin his
      go_enter Try.func29, Try.ntmps29
      go_wp2_with fail
      refine hf.mono ?_
      rintro e w1 ⟨rfl, hw⟩
      obtain rfl := hw.symm
      clear hw
      go_wp2_with fail
      refine (hsp _).mono ?_
      rintro e w1 ⟨rfl, hw⟩
      obtain rfl := hw.symm
      clear hw
      go_wp2
      go_ret
      exact ⟨rfl, HR.out⟩
    · rw [show spanB a b = true by rw [spanB_iff]; exact hS] at hsp
      obtain ⟨ha0, hab, hb4⟩ := hS
      obtain ⟨a, rfl⟩ : ∃ m : Nat, a = m := ⟨a.toNat, by omega⟩
      obtain ⟨b, rfl⟩ : ∃ m : Nat, b = m := ⟨b.toNat, by omega⟩
      obtain ⟨g, c, hv, hlt, hat⟩ := fm_at h hi
      subst hv
      have hsee := (fm_see h hi).1
      have hfew := hT.few
      have c0 : W.cell? ⟨q, 0, none⟩ = some (.slice (some ⟨g, 0, none⟩) T.length c) := by rw [(FmX.box h).cell]; rfl
      obtain ⟨-, c1, -⟩ := rSp.at hat
      have HBX : Hid (Laid W q 29 #[.slice (some ⟨g, 0, none⟩) T.length c]) := FmX.box h
      have HRO : Hid (Row rSp 0 W (.slice (some ⟨g, 0, none⟩) (heads T).length c) (heads T)) := by
        have := FmX.row h
        rwa [heads_len]
      have HBL : Hid (Below w.heap.size w W) := HB0
      have HXD : Hid (Laid W w.heap.size 72 #[.bool d0, .bool d1, .bool d2, .bool d3]) := HX0
      have HI : Hid (i < T.length) := hi
      have HCN : Hid (CanA (layA s.f a b t) M) := hM
      have HFE : Hid (T.length ≤ 255) := hfew
      -- what comes of it
      have HEND : Hid (∀ (gp cp : Nat) (W2 w1 : World), M.length ≤ 64 → Row rAPg W.heap.size W2 (.slice (some ⟨gp, 0, none⟩) 4096 cp) (pagesA (layA s.f a b t)) → Below W.heap.size W W2 → Below W2.heap.size W2 w1 →
          LyI F w q (.slice (some ⟨g, 0, none⟩) T.length c) T i { (T.getD i zT).1 with gp := gp, cp := cp } (layA s.f a b t) (wdZ s.wd a a) (w1.setCell ⟨g, i * 3 + 1, none⟩ (.slice (some ⟨gp, 0, none⟩) 4096 cp))) := fun gp cp W2 w1 h4 hr hb hb2 => by
        have k1 : Bec F0 W ((Th.row rAPg (.slice (some ⟨gp, 0, none⟩) 4096 cp) (pagesA (layA s.f a b t))).and (FmX q (.slice (some ⟨g, 0, none⟩) T.length c) T)) w1 := ((Bec.refl h).new (row_new hr hb)).below hb2
        have k2 := hcl (fm_pages k1 hi)
        rw [his] at k2
        rw [wdZ_self]
        exact k2
      have HFIN : Hid (∀ (gp cp : Nat) (W' : World), M.length ≤ 64 → LyI F w q (.slice (some ⟨g, 0, none⟩) T.length c) T i { (T.getD i zT).1 with gp := gp, cp := cp } (layA s.f a b t) (wdZ s.wd a b) W' → Bec F w (FmT q (A.set n (some ⟨layA s.f a b t, wdZ s.wd a b⟩))) W') := fun gp cp W' h4 hly => by
        have hso : s.ok := (hT.ok n s hs).2
        have := ly_end hly hT hi rfl (layS_ok hso ⟨ha0, hab, hb4⟩ hM h4)
        rwa [show ({ (T.getD i zT).1 with gp := gp, cp := cp } : SpV).n = n from hin] at this
      rw [his] at hsee
      generalize hx : (T.getD i zT).1 = x at *
      obtain ⟨xn, gp0, cp0, gw0, cw0⟩ := x
      unfold SpV.vp at c1 hsee
      try simp only at c1 hsee
      have hil : (i : Int) < (T.length : Int) := by omega
      have hi0 : (0 : Int) ≤ (i : Int) := by omega
      have hE1 : Laid (W.alloc (.cells #[] 72)) W.heap.size 72 #[] := Laid.new _ _ _
      have hs1 : Seen rAPg (W.alloc (.cells #[] 72)) (some ⟨gp0, 0, none⟩) cp0 (pagesA s.f) := hsee.seen.2.below (new_below _ _)
      have hc1 : ∀ u, (W.alloc u).cell? ⟨q, 0, none⟩ = some (.slice (some ⟨g, 0, none⟩) T.length c) := fun u => (cell_alloc_old HBX.out.lt 0 u).trans c0
      have hc2 : ∀ u, (W.alloc u).cell? ⟨g, i * 3 + 1, none⟩ = some (.slice (some ⟨gp0, 0, none⟩) 4096 cp0) := fun u => (cell_alloc_old hlt _ u).trans c1
      have HC1 : Hid (W.cell? ⟨g, i * 3 + 1, none⟩ = some (.slice (some ⟨gp0, 0, none⟩) 4096 cp0) ∧ g < W.heap.size) := ⟨c1, hlt⟩
      clear h hT hcl HB0 HX0 hs hi hin his hat hM hsee hx hfew c0 c1 hlt
      generalize hTL : T.length = len at *
      have HTL : Hid (T.length = len) := hTL
      clear hTL
      go_enter Try.func29, Try.ntmps29
      go_wp2_with fail
      refine hf.mono ?_
      rintro e w1 ⟨rfl, hw⟩
      obtain rfl := hw.symm
      clear hw
      go_wp2_with fail
      refine (hsp _).mono ?_
      rintro e w1 ⟨rfl, hw⟩
      obtain rfl := hw.symm
      clear hw hf hsp hW
      go_wp2_with (at_builtin; refine list_appN APg.kin rfl _ _ rfl (pagesA s.f) rfl (some ⟨gp0, 0, none⟩) 4096 cp0 rfl (pages_len _) (by decide) (by unfold maxLen; omega) (by decide) hE1 hs1 ?_)
      intro cp W2 hrow hb2
      have HP0 : Hid (Row rAPg W.heap.size W2 (.slice (some ⟨W.heap.size + 1, 0, none⟩) 4096 cp) (pagesA (layA s.f a a t))) := by
        rw [lay_none]
        have h0 : Row rAPg (W.heap.size + 1) W2 (.slice (some ⟨W.heap.size + 1, 0, none⟩) 4096 cp) (pagesA s.f) := by simpa using hrow
        exact h0.lower (by omega)
      have HB2 : Hid (Below W.heap.size W W2) := (new_below W _).trans (hb2.mono (by simp))
      have hab' : a < b := by omega
      clear hrow hb2 hE1 hs1 hc1 hc2
      go_wp2
      go_loopw [14] (fun iv X => ∃ k : Nat, a ≤ k ∧ k ≤ b ∧ iv = .int .i64 k ∧ Hid (Row rAPg W.heap.size X (.slice (some ⟨W.heap.size + 1, 0, none⟩) 4096 cp) (pagesA (layA s.f a k t))) ∧ Hid (Below W.heap.size W X)) (fun iv _ => b - (intOf iv).toNat)
      case atStart => exact ⟨a, Nat.le_refl _, Nat.le_of_lt hab', rfl, HP0, HB2⟩
      case round =>
        obtain ⟨k, hk1, hk2, rfl, HPk, HBk⟩ := hrel
        clear HP0 HB2
        by_cases hkb : k < b
        · have hkz : (k : Int) < (b : Int) := by omega
          have hk4 : (k : Int) < 4096 := by omega
          have hkl : k < (pagesA (layA s.f a k t)).length := by rw [pages_len]; omega
          obtain ⟨g', e', -, -, hgw, -, -, hatk⟩ := HPk.out.at hkl
          cases e'
          obtain ⟨p0, p1, p2, p3⟩ := APg.at hatk
          simp only [show rAPg.n = 4 from rfl] at p0 p1 p2 p3
          have hfz := fun o => HPk.out.frozen o
          have hxd := HXD.out.below HBk.out
          have z0 : wr.cell? ⟨w.heap.size, 0, none⟩ = some (.bool d0) := by rw [hxd.cell]; rfl
          have z1 : wr.cell? ⟨w.heap.size, 1, none⟩ = some (.bool d1) := by rw [hxd.cell]; rfl
          have z2 : wr.cell? ⟨w.heap.size, 2, none⟩ = some (.bool d2) := by rw [hxd.cell]; rfl
          have z3 : wr.cell? ⟨w.heap.size, 3, none⟩ = some (.bool d3) := by rw [hxd.cell]; rfl
          have HNP : Hid (Row rAPg W.heap.size (wr.setCells (W.heap.size + 1) (k * 4) [.bool d0, .bool d1, .bool d2, .bool d3]) (.slice (some ⟨W.heap.size + 1, 0, none⟩) 4096 cp) (pagesA (layA s.f a ((k + 1 : Nat) : Int) t))) := by
            rw [lay_step _ _ hk1, HT0.out]
            exact HPk.out.put k ⟨d0, d1, d2, d3⟩ hkl
          have HNB : Hid (Below W.heap.size W (wr.setCells (W.heap.size + 1) (k * 4) [.bool d0, .bool d1, .bool d2, .bool d3])) := HBk.out.trans ((Keeps.sets [.bool d0, .bool d1, .bool d2, .bool d3] wr (W.heap.size + 1) (k * 4)).below HBk.out.size fun c _ e => by rw [e]; omega)
          clear hatk HPk HBk hkl hxd
          go_wp2
          go_roundw
          case rel => exact ⟨k + 1, by omega, by omega, by go_num, HNP, HNB⟩
          case measure => simp only [intOf]; omega
        · obtain rfl : k = b := by omega
          have hfit := fits_any (cp := cp) (HBX.out.below HBk.out) (i := i) HI.out HFE.out ((HBk.out.cell HC1.out.2).trans HC1.out.1) ((HRO.out.below HBk.out).frozen _) (Nat.lt_of_lt_of_le HC1.out.2 HBk.out.size) HPk.out.sn HCN.out
          go_wp2_with fail
          refine hfit.mono ?_
          intro e w3 hfp
          rcases hfp with ⟨h64, rfl, hb⟩ | ⟨h64, rfl, w4, hb, rfl⟩
          · have HE : Hid (FmP F w q A' code (.returned (.int .i64 5)) w3) := by
              rcases hd with ⟨-, rfl, rfl⟩ | ⟨h, -⟩
              · exact ⟨rfl, HR.out.below (below_call' HBk.out hb)⟩
              · omega
            clear hfit hb h64 HPk HBk hd
            go_wp2
            go_loopw [16] (fun iv X => X = w3 ∧ iv = .int .i64 a) (fun _ _ => 0)
            case atStart => exact ⟨rfl, rfl⟩
            case round =>
              obtain ⟨rfl, rfl⟩ := hrel
              go_wp2
              go_ret
              exact HE.out
          · have HLY : Hid (LyI F w q (.slice (some ⟨g, 0, none⟩) len c) T i ⟨xn, W.heap.size + 1, cp, gw0, cw0⟩ (layA s.f a k t) (wdZ s.wd a a) (w4.setCell ⟨g, i * 3 + 1, none⟩ (.slice (some ⟨W.heap.size + 1, 0, none⟩) 4096 cp))) := HEND.out _ _ _ _ h64 HPk.out HBk.out hb
            have HE : Hid (∀ X, LyI F w q (.slice (some ⟨g, 0, none⟩) len c) T i ⟨xn, W.heap.size + 1, cp, gw0, cw0⟩ (layA s.f a k t) (wdZ s.wd a k) X → FmP F w q A' code (.returned (.int .i64 0)) X) := fun X hX => by
              rcases hd with ⟨h, -⟩ | ⟨-, rfl, rfl⟩
              · omega
              · exact ⟨rfl, HFIN.out _ _ _ h64 hX⟩
            clear hfit hb h64 HPk HBk hd HEND HFIN
            rw [← HTL.out] at HLY HE
            go_wp2
            go_loopw [16] (fun iv X => ∃ m : Nat, a ≤ m ∧ m ≤ k ∧ iv = .int .i64 m ∧ Hid (LyI F w q (.slice (some ⟨g, 0, none⟩) T.length c) T i ⟨xn, W.heap.size + 1, cp, gw0, cw0⟩ (layA s.f a k t) (wdZ s.wd a m) X)) (fun iv _ => k - (intOf iv).toNat)
            case atStart => exact ⟨a, Nat.le_refl _, Nat.le_of_lt hab', rfl, HLY⟩
            case round =>
              obtain ⟨m, hm1, hm2, rfl, HLm⟩ := hrel
              clear HLY
              by_cases hmk : m < k
              · have hmz : (m : Int) < (k : Int) := by omega
                have hm4 : (m : Int) < 4096 := by omega
                obtain ⟨y0, y2, yr⟩ := ly_at HLm.out (by rw [HTL.out]; exact HI.out)
                rw [HTL.out] at y0
                unfold SpV.vw at y2 yr
                simp only at y2 yr
                have hkl : m < (wordsA (wdZ s.wd a m)).length := by rw [words_len]; omega
                obtain ⟨g', e', -, -, hgw, -, -, hatk⟩ := yr.at hkl
                cases e'
                have u0 := rW8.at hatk (j := 0) (by decide)
                have u1 := rW8.at hatk (j := 1) (by decide)
                have u2 := rW8.at hatk (j := 2) (by decide)
                have u3 := rW8.at hatk (j := 3) (by decide)
                have u4 := rW8.at hatk (j := 4) (by decide)
                have u5 := rW8.at hatk (j := 5) (by decide)
                have u6 := rW8.at hatk (j := 6) (by decide)
                have u7 := rW8.at hatk (j := 7) (by decide)
                simp only [show rW8.n = 8 from rfl, Nat.add_zero] at u0 u1 u2 u3 u4 u5 u6 u7
                have hfz := fun o => yr.frozen o
                have HNL : Hid (LyI F w q (.slice (some ⟨g, 0, none⟩) T.length c) T i ⟨xn, W.heap.size + 1, cp, gw0, cw0⟩ (layA s.f a k t) (wdZ s.wd a ((m + 1 : Nat) : Int)) (wr.setCells gw0 (m * 8) [.int .u64 0, .int .u64 0, .int .u64 0, .int .u64 0, .int .u64 0, .int .u64 0, .int .u64 0, .int .u64 0])) := by
                  refine ly_turn HLm.out (by rw [HTL.out]; exact HI.out) ?_ (Keeps.sets _ wr gw0 (m * 8))
                  rw [wdZ_step _ hm1]
                  exact yr.put m (fun _ => 0) hkl
                clear hatk HLm yr hkl
                generalize (wordsA (wdZ s.wd a m)).getD m rW8.zero = ws at *
                go_wp2
                go_roundw
                case rel => exact ⟨m + 1, by omega, by omega, by go_num, HNL⟩
                case measure => simp only [intOf]; omega
              · obtain rfl : m = k := by omega
                have HZ := HE.out _ HLm.out
                have HZ' : Hid _ := HZ
                clear HZ
                go_wp2
                go_ret
                exact HZ'.out
end Go.Proofs.Ytoimmapdkapheaa
