/- WalkHangs: the walk. -/
import Derived.Test.YteoblaopbhdneaaKStays
import Derived.Deep.Cut
import Derived.Deep.CutRange
import Derived.Lib.ItoaWalk
namespace Go.Proofs.Yteoblaopbhdneaa
open Go.RowKit

/-- Two pages of one block end there. -/
theorem block_share {n : Nat} {f : Nat → Nat} {r p o : Nat} {x y : Fnd} (hx : walkF n f r p = some x) (hy : walkF n f r o = some y) (hk : x.kind = 2) (h1 : x.first ≤ o) (h2 : (o : Int) < x.first + 8) :
    y.table = x.table ∧ y.place = x.place ∧ y.base = x.base ∧ y.frame - x.frame = (o : Int) - p := by
  obtain ⟨L, T, _, q2, _, _, q5, q6⟩ := walkN_ends (l := 0) (by omega) hx
  have hs := says_kinds L (f (T * 8 + dig L p))
  generalize saysD L (f (T * 8 + dig L p)) = d at *
  have hdk : d.kind = 2 := by rw [q5, endF_kind] at hk; exact hk
  obtain rfl : L = 2 := by have := hs.2.1 hdk; omega
  have hx' : x = ⟨2, (2 : Nat), T, (dig 2 p : Nat), d.frame + (p % 8 : Nat), 3, (p / 8 * 8 : Nat), d.frame, d.wr, d.ex, d.sn⟩ := by rw [q5]; unfold endF; rw [if_pos hdk]
  rw [hx'] at h1 h2
  simp only at h1 h2
  have he : p / 8 = o / 8 := by omega
  have hw := q6 o (by simpa using he)
  have hy' : y = ⟨2, (2 : Nat), T, (dig 2 p : Nat), d.frame + (o % 8 : Nat), 3, (o / 8 * 8 : Nat), d.frame, d.wr, d.ex, d.sn⟩ := by
    have : some y = some (endF d 2 T (dig 2 p) o) := hy.symm.trans hw
    rw [Option.some.inj this]
    unfold endF
    rw [if_pos hdk]
  rw [hx', hy']
  simp only
  refine ⟨trivial, trivial, trivial, ?_⟩
  omega

/-- A word that stands elsewhere may be another one. -/
theorem walk_else {n : Nat} {f : Nat → Nat} {r p : Nat} {x : Fnd} (hx : walkF n f r p = some x) (a i : Int) (v : Nat) (h : ∀ j : Nat, (j : Int) ≤ x.level → ¬ (a = (tabs f p r j : Nat) ∧ i = (dig j p : Nat))) : walkF n (stF f n a i v) r p = some x := by
  have hh := walkN_hangs (g := stF f n a i v) (l := 0) (root := r) (by omega) hx
  refine hh.2 fun j _ hj => ?_
  unfold stF
  cases hok : okP n a i
  · rfl
  · obtain ⟨y, z, rfl, rfl, hy, hz⟩ := okP_nat hok
    show upd f (y * 8 + z) v _ = _
    unfold upd
    rw [if_neg]
    intro e
    have hd := dig_lt j p
    exact h j hj ⟨by omega, by omega⟩
theorem walk_tabs {n : Nat} {f : Nat → Nat} {r p : Nat} {x : Fnd} (hx : walkF n f r p = some x) : ∀ j : Nat, (j : Int) ≤ x.level → tabs f p r j < n :=
  fun j hj => (walkN_hangs (g := f) (l := 0) (root := r) (by omega) hx).1 j (Nat.zero_le _) hj
theorem walk_level {n : Nat} {f : Nat → Nat} {r p : Nat} {x : Fnd} (hx : walkF n f r p = some x) : ∃ L : Nat, L ≤ 3 ∧ x.level = L := by
  obtain ⟨L, T, _, q2, _, _, q5, _⟩ := walkN_ends (l := 0) (by omega) hx
  exact ⟨L, q2, by rw [q5]; exact (endF_where _ _ _ _ _).1⟩
theorem Laid.of_words {B : Nat} {w w' : World} {b s n d : Nat} {f : Nat → Nat} {t : TypeId} {cs : Array Value} (X : Laid w d t cs) (M : Mem B w b s n f) (ht : t ≠ 75) (G : w.grownBy w' (some s)) : Laid w' d t cs := by
  obtain ⟨_, h2, _⟩ := M.row
  exact X.kept G (fun e => ne_of_tag X h2 ht (by cases e; rfl))

theorem words_st {n : Nat} {f : Nat → Nat} (h : Words n f) (a i : Int) (v : Nat) (hv : v ≤ 18446744073709551615) : Words n (stF f n a i v) := by
  unfold stF
  split
  · exact words_upd h _ _ hv
  · exact h

/-- What region 9 of the statement asks, its five ways. -/
def Way (x y : Fnd) (fe : Value) (o p : Int) : Prop :=
  (∃ c : Int, fe = .iface 27 (.int .i64 c)) ∨ (fe = .nilIface ∧ ((x.kind == 2) = false ∨ ((x.kind == 2) = true ∧ (¬ x.first ≤ o ∨ (x.first ≤ o ∧ (¬ o < x.first + 8 ∨ (o < x.first + 8 ∧ (y.table != x.table) = false ∧ (y.place != x.place) = false ∧ (y.base != x.base) = false ∧ (y.frame - x.frame != o - p) = false)))))))
theorem walk_bounds {n : Nat} {f : Nat → Nat} {r p : Nat} {x : Fnd} (hx : walkF n f r p = some x) (hp : p < 4096) : 0 ≤ x.first ∧ x.first < 4096 ∧ 0 ≤ x.frame ∧ x.frame < 1000 := by
  obtain ⟨L, T, _, _, _, _, q5, _⟩ := walkN_ends (l := 0) (by omega) hx
  obtain ⟨f0, f1, -⟩ := says_frames L (f (T * 8 + dig L p))
  generalize saysD L (f (T * 8 + dig L p)) = d at *
  rw [q5]
  unfold endF
  repeat' split
  all_goals (simp only; omega)
theorem way_of {n : Nat} {f : Nat → Nat} {r p : Nat} {x y : Fnd} {fe : Value} {o : Int} (hx : walkF n f r p = some x) (hfe : ErrV fe) (hy : fe = .nilIface → ∃ r' p' : Nat, (r : Int) = r' ∧ o = p' ∧ r' < n ∧ p' < 4096 ∧ walkF n f r' p' = some y) : Way x y fe o p := by
  rcases hfe with h | h
  · refine Or.inr ⟨h, ?_⟩
    obtain ⟨r', p', e1, rfl, _, _, hy⟩ := hy h
    obtain rfl : r = r' := by omega
    by_cases hk : x.kind = 2
    · refine Or.inr ⟨by simp [hk], ?_⟩
      by_cases h1 : x.first ≤ p'
      · refine Or.inr ⟨h1, ?_⟩
        by_cases h2 : (p' : Int) < x.first + 8
        · obtain ⟨b1, b2, b3, b4⟩ := block_share hx hy hk h1 h2
          exact Or.inr ⟨h2, by simp [b1], by simp [b2], by simp [b3], by simp [b4]⟩
        · exact Or.inl h2
      · exact Or.inl h1
    · exact Or.inl (by simpa using hk)
  · exact Or.inl h

set_option maxRecDepth 100000 in
set_option maxHeartbeats 8000000 in
theorem walk_walkHangs (x : Int) (ao : Option Addr) (len cap : Nat) (D : Nat → Wrd) (root page other : Int) (d : Wrd) (w : World) (hx : -9223372036854775808 ≤ x ∧ x ≤ 9223372036854775807) (_ : len ≤ maxLen) (hL : Lst Wrd.cells Wrd.ok 3 w ao len D)
    (_hr : -9223372036854775808 ≤ root ∧ root ≤ 9223372036854775807) (_hp : -9223372036854775808 ≤ page ∧ page ≤ 9223372036854775807) (ho : -9223372036854775808 ≤ other ∧ other ≤ 9223372036854775807) (hd : d.ok) :
    Calls Try.prog 6 #[.int .i64 x, .slice ao len cap, .int .i64 root, .int .i64 page, .int .i64 other, .agg d.cells.toArray] w fun e w' => e = .returned (.bool true) ∧ Below w.heap.size w w' := by
  obtain ⟨fr, pl, wd⟩ := d
  simp only [Wrd.cells]
  obtain ⟨_, _, hwd⟩ := hd
  simp only at hwd
  go_enter Try.func6, Try.ntmps6
  go_wp2_with fail
  refine (up_any _).mono ?_
  rintro e w1 ⟨rfl, hb⟩
  have X1 := (Laid.new w 52 #[.int .i64 fr, .int .i64 pl, .int .u64 wd]).below hb
  have L1 : Below w.heap.size w w1 := ((Below.refl _ _).alloc (Nat.le_refl _) _).trans (hb.mono (by simp))
  have hL1 := hL.below L1
  clear hL hb
  go_wp2_with fail
  refine (lay_any x ao len cap D _ hL1 hx).mono ?_
  rintro e w2 ⟨n, b, s, qr, cr, R, f, rfl, n1, n2, M2, F2, hf, hb⟩
  have L2 := below_call' L1 hb
  have X2 := X1.below hb
  replace M2 := M2.base L1.size
  clear hb L1 hL1 F2 X1
  obtain ⟨y, ev, hev, hyy, hW⟩ := walk_all n f hf root page
  obtain ⟨z, fe, hfe, hzz, hV⟩ := walk_all n f hf root other
  unfold fv at hW hV
  go_wp2_with fail
  refine (hW M2).mono ?_
  rintro e w3 ⟨rfl, hb⟩
  have M3 := M2.below hb
  have X3 := X2.below hb
  have L3 := below_call' L2 hb
  clear hb M2 X2 L2 hW
  go_wp2_with fail
  have B4 : Below w3.heap.size w3 (w3.alloc (.cells (fcells y) 37)) := (Below.refl _ _).alloc (Nat.le_refl _) _
  have M4 := M3.below B4
  have X4 := X3.below B4
  have L4 := below_call' L3 B4
  have Y4 := Laid.new w3 37 (fcells y)
  clear B4 M3 X3 L3
  unfold fcells at M4 X4 L4 Y4
  refine (hV M4).mono ?_
  rintro e w5 ⟨rfl, hb⟩
  have B6 : Below w5.heap.size w5 (w5.alloc (.cells (fcells z) 37)) := (Below.refl _ _).alloc (Nat.le_refl _) _
  have M6 := (M4.below hb).below B6
  have X6 := (X4.below hb).below B6
  have L6 := below_call' (below_call' L4 hb) B6
  have Y6 : Laid (w5.alloc (.cells (fcells z) 37)) w3.heap.size 37 (fcells y) := Laid.below (Laid.below Y4 hb) B6
  have Z6 := Laid.new w5 37 (fcells z)
  clear B6 M4 X4 L4 Y4 hb hV
  rcases hev with rfl | ⟨c, rfl⟩
  · obtain ⟨r, p, rfl, rfl, hr, hp, hwk⟩ := hyy rfl
    have hway := way_of hwk hfe hzz
    clear hyy
    obtain ⟨Lx, hL3, hlv⟩ := walk_level hwk
    have hbd := walk_bounds hwk hp
    have hbz : fe = .nilIface → 0 ≤ z.frame ∧ z.frame < 1000 ∧ 0 ≤ other ∧ other < 4096 := by
      intro h
      obtain ⟨r', p', e1, e2, _, h4, hz⟩ := hzz h
      have := walk_bounds hz h4
      omega
    clear hzz
    obtain ⟨b1, b2, b3, b4⟩ := hbd
    go_upto_region 9 with fail
    go_name_world W6 hw6
    have HH : Hid (Mem w.heap.size W6 b s n f ∧ Laid W6 w.heap.size 52 #[.int .i64 fr, .int .i64 pl, .int .u64 wd] ∧ Below w.heap.size w W6 ∧ Laid W6 w3.heap.size 37 (fcells y)) := by
      rw [← hw6]
      exact ⟨M6, X6, L6, Y6⟩
    obtain ⟨x0, x1, x2, x3, x4, x5, x6, x7, x8, x9, x10⟩ := HH.out.2.2.2.found
    have Z6' : Laid W6 w5.heap.size 37 (fcells z) := by rw [← hw6]; exact Z6
    obtain ⟨z0, z1, z2, z3, z4, z5, z6, z7, z8, z9, z10⟩ := Z6'.found
    clear M6 X6 L6 Y6 Z6 Z6' hw6
    go_cut [105] from 54 to 105 (fun s105 wx => s105 = .bool false ∧ W6 = wx)
    case first =>
      clear HH hlv hwk hf
      rcases hway with ⟨c, rfl⟩ | ⟨rfl, t1 | ⟨t1, t2 | ⟨t2, t3 | ⟨t3, t4, t5, t6, t7⟩⟩⟩⟩
      · go_wp2_with fail
        go_meet
        exact ⟨rfl, rfl⟩
      · clear hbz
        go_wp2_with fail
        go_meet
        exact ⟨rfl, rfl⟩
      · clear hbz
        go_wp2_with fail
        go_meet
        exact ⟨rfl, rfl⟩
      · clear hbz
        go_wp2_with fail
        go_meet
        exact ⟨rfl, rfl⟩
      · obtain ⟨a1, a2, a3, a4⟩ := hbz rfl
        go_wp2_with fail
        go_meet
        exact ⟨rfl, rfl⟩
    case rest =>
      obtain ⟨rfl, rfl⟩ := hcut
      clear x0 x1 x2 x3 x4 x5 x6 x7 x8 x9 x10 z0 z1 z2 z3 z4 z5 z6 z7 z8 z9 z10 hbz hway
      obtain ⟨M6, X6, L6, Y6⟩ := HH.out
      clear HH
      go_wp2
      go_loopw [20, 21] (fun t i W => ∃ l : Nat, l ≤ Lx + 1 ∧ t = .int .i64 (tabs f p r l : Nat) ∧ i = .int .i64 l ∧ (∀ j : Nat, j < l → ¬ (fr = (tabs f p r j : Nat) ∧ pl = (dig j p : Nat))) ∧ Mem w.heap.size W b s n f ∧ Laid W w.heap.size 52 #[.int .i64 fr, .int .i64 pl, .int .u64 wd] ∧ Below w.heap.size w W ∧ Laid W w3.heap.size 37 (fcells y)) (fun _ i _ => Lx + 1 - (intOf i).toNat)
      case atStart => exact ⟨0, by omega, rfl, rfl, fun j hj => by omega, M6, X6, L6, Y6⟩
      case round =>
        obtain ⟨l, hl, rfl, rfl, hno, M, X, L, Y⟩ := hrel
        have HN : Hid _ := hno
        clear M6 X6 L6 Y6 hno
        obtain ⟨-, y1, -⟩ := Y.found
        rw [hlv] at y1
        have HV : Hid _ := hlv
        have k0 : wr.cell? ⟨w.heap.size, 0, none⟩ = some (.int .i64 fr) := X.cell 0
        have k1 : wr.cell? ⟨w.heap.size, 1, none⟩ = some (.int .i64 pl) := X.cell 1
        have k2 : wr.cell? ⟨w.heap.size, 2, none⟩ = some (.int .u64 wd) := X.cell 2
        by_cases hlt : l ≤ Lx
        · have ht := walk_tabs hwk l (by omega)
          have hT : tabs f p r (l + 1) = wF (f (tabs f p r l * 8 + dig l p)) := rfl
          have hq8 := dig_lt l p
          have hfx : f (tabs f p r l * 8 + dig l p) < 18446744073709551616 := hf _ (by omega)
          have hpl := fun w => place_yes l p w (by omega) hp
          have HC : Hid (¬ (fr = (tabs f p r l : Nat) ∧ pl = (dig l p : Nat)) → ∀ j : Nat, j < l + 1 → ¬ (fr = (tabs f p r j : Nat) ∧ pl = (dig j p : Nat))) := by
            intro h j hj
            by_cases e : j = l
            · rw [e]; exact h
            · exact HN.out j (by omega)
          clear hlv HN
          have hI : ((f (tabs f p r l * 8 + dig l p) : Nat) : Int) / 4096 % 68719476736 = (tabs f p r (l + 1) : Nat) := by
            rw [hT]
            unfold wF
            rw [Int.natCast_emod, Int.natCast_ediv]
            rfl
          have ht2 : tabs f p r (l + 1) < 68719476736 := by rw [hT]; exact wF_lt _
          clear hT hwk hf
          generalize hg2 : tabs f p r (l + 1) = t2 at *
          generalize tabs f p r l = t at *
          generalize dig l p = q at *
          generalize hg3 : f (t * 8 + q) = x0 at *
          go_wp2_with fail
          refine (hpl _).mono ?_
          rintro e w7 ⟨rfl, dd, hw⟩
          have M7 : Mem w.heap.size w7 b s n f := by rw [hw]; exact M.drewN dd
          have X7 : Laid w7 w.heap.size 52 #[.int .i64 fr, .int .i64 pl, .int .u64 wd] := by rw [hw]; exact X
          have L7 : Below w.heap.size w w7 := by rw [hw]; exact below_drewN L dd
          have Y7 : Laid w7 w3.heap.size 37 (fcells y) := by rw [hw]; exact Y
          clear hw M X L Y k0 k1 k2 y1 hpl
          have k0 : w7.cell? ⟨w.heap.size, 0, none⟩ = some (.int .i64 fr) := X7.cell 0
          have k1 : w7.cell? ⟨w.heap.size, 1, none⟩ = some (.int .i64 pl) := X7.cell 1
          by_cases h1 : fr = t
          · by_cases h2 : pl = q
            · subst h1 h2
              go_wp2
              go_ret
              exact ⟨rfl, L7⟩
            · have hn := HC.out (fun h => h2 h.2)
              have HN : Hid _ := hn
              have t1 : (fr == (t : Int)) = true := by simpa using h1
              have t2' : (pl == (q : Int)) = false := by simpa using h2
              have hld := load_yes M7 t q ht hq8
              rw [hg3] at hld
              clear h1 h2 hn HC
              have HH : Hid _ := And.intro M7 (And.intro X7 (And.intro L7 Y7))
              clear M7 X7 L7 Y7
              go_wp2_with fail
              refine hld.mono ?_
              rintro e w8 ⟨rfl, hw⟩
              obtain rfl := hw.symm
              clear hw hld
              go_wp2
              obtain ⟨M7, X7, L7, Y7⟩ := HH.out
              go_roundw
              case rel => exact ⟨l + 1, by omega, by rw [hg2], by go_num, HN.out, M7, X7, L7, Y7⟩
              case measure => simp [intOf]; omega
          · have hn := HC.out (fun h => h1 h.1)
            have HN : Hid _ := hn
            have t1 : (fr == (t : Int)) = false := by simpa using h1
            have hld := load_yes M7 t q ht hq8
            rw [hg3] at hld
            clear h1 hn HC
            have HH : Hid _ := And.intro M7 (And.intro X7 (And.intro L7 Y7))
            clear M7 X7 L7 Y7
            go_wp2_with fail
            refine hld.mono ?_
            rintro e w8 ⟨rfl, hw⟩
            obtain rfl := hw.symm
            clear hw hld
            go_wp2
            obtain ⟨M7, X7, L7, Y7⟩ := HH.out
            go_roundw
            case rel => exact ⟨l + 1, by omega, by rw [hg2], by go_num, HN.out, M7, X7, L7, Y7⟩
            case measure => simp [intOf]; omega
        · obtain rfl : l = Lx + 1 := by omega
          have hel := walk_else hwk fr pl wd (fun j hj => HN.out j (by rw [HV.out] at hj; omega))
          have hwg := words_st hf fr pl wd hwd
          generalize hgg : stF f n fr pl wd = g at *
          have hS := store_all M fr pl wd
          rw [hgg] at hS
          clear hlv HN HV hwk hf hgg
          go_wp2_with fail
          refine hS.mono ?_
          rintro e w7 ⟨vv, rfl, M7, G⟩
          have Y7 := Y.of_words M (by decide) G
          have L7 := below_row L L.size G M.hs
          clear hS G M X L Y k0 k1 k2 y1
          have hW := walk_yes M7 hwg r p hr hp
          rw [hel] at hW
          unfold ansF fv at hW
          simp only at hW
          have he := eql_fnd y y
          rw [eqF_self] at he
          unfold fv at he
          go_wp2_with fail
          refine hW.mono ?_
          rintro e w8 ⟨rfl, hb⟩
          have Y8 := Y7.below hb
          have L8 := below_call' L7 hb
          have hz := Y8.lt
          obtain ⟨x0, x1, x2, x3, x4, x5, x6, x7, x8, x9, x10⟩ := Y8.found
          have ka := fun o v => cell_alloc_old hz o v
          clear hb Y7 L7 M7 Y8 hW hel
          go_wp2
          go_ret
          exact ⟨rfl, L8.alloc L8.size _⟩
  · clear hyy hzz
    go_wp2
    go_ret
    exact ⟨rfl, L6⟩
end Go.Proofs.Yteoblaopbhdneaa
