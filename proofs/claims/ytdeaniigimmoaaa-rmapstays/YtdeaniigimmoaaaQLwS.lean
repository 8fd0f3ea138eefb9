/- RmapStays walked. -/
import Derived.Test.YtdeaniigimmoaaaJE
namespace Go.Proofs.Ytdeaniigimmoaaa
open Go.RowKit

/-- A row is stored into. -/
theorem row_puts {α : Type} {R : Rec α} {F : Nat → Prop} {w : World} {g n c o : Nat} {L L' : List α} {vs : List Value} (h : (Th.row R (.slice (some ⟨g, 0, none⟩) n c) L).In F w) (h' : Row R 0 (w.setCells g o vs) (.slice (some ⟨g, 0, none⟩) n c) L') : Bec F w (.row R (.slice (some ⟨g, 0, none⟩) n c) L') (w.setCells g o vs) :=
  ⟨F, fun _ h => Or.inl h, ⟨h.1, h'⟩, (Keeps.sets vs w g o).mono fun c _ e => (h.1 c).2 (by rw [e]; rfl)⟩
theorem frames_no {l : List Rw} (h : MayR l) (e : framesI l = []) : l = [] := by
  cases l with
  | nil => rfl
  | cons x l =>
    have := (framesI_mem h (f := x.f)).2 ⟨x, by simp, rfl⟩
    rw [e] at this
    simp at this
set_option maxRecDepth 100000 in
set_option maxHeartbeats 16000000 in
theorem walk_rmapStays (ao : Option Addr) (len cap : Nat) (D : Nat → QDd) (w : World) (hm : len ≤ maxLen) (hL : Lst QDd.cells QDd.ok 5 w ao len D) :
    Calls Try.prog 5 #[.slice ao len cap] w fun e w' => e = .returned (.bool true) ∧ Below w.heap.size w w' := by
  have hm' : len ≤ 9223372036854775807 := by unfold maxLen at hm; omega
  have HLst : Hid (Lst QDd.cells QDd.ok 5 w ao len D) := hL
  clear hL hm
  go_enter Try.func5, Try.ntmps5
  go_wp2_with fail
  refine (up_any _).mono ?_
  rintro e w1 ⟨rfl, L1⟩
  go_wp2_with fail
  refine (new_any _).mono ?_
  rintro e w2 ⟨m, rfl, hb⟩
  have HP0 : Hid (Bec (fun _ => False) w ((RmT m []).and .emp) w2) := rm_start (Bec.base L1.out hb.out)
  clear hb L1
  go_wp2_with fail
  go_loopw [5] (fun iv wr => ∃ (j : Nat) (l : List Rw), j ≤ len ∧ j ≤ 30 ∧ iv = .int .i64 j ∧ Hid (l.length ≤ j ∧ Bec (fun _ => False) w ((RmT m l).and .emp) wr ∧ ∀ x ∈ l, ∃ i, i < j ∧ (D i).w.s = x.s ∧ (D i).w.p = x.p)) (fun iv _ => 30 - (intOf iv).toNat)
  case atStart => exact ⟨0, [], Nat.zero_le _, Nat.zero_le _, rfl, Nat.zero_le _, HP0.out, by simp⟩
  case round =>
    obtain ⟨j, l, hj, hj8, rfl, HB⟩ := hrel
    clear HP0
    by_cases hlt : j < len ∧ j < 30
    · obtain ⟨h1, h2⟩ := hlt
      have h1z : (j : Int) < (len : Int) := by omega
      have h2z : (j : Int) < 30 := by omega
      obtain ⟨g, off, rfl, hglt, hok, hc⟩ := QDd.lst HLst.out HB.out.2.1.frame h1
      have HC : Hid (∀ W', Below w.heap.size w W' → W'.cell? ⟨g, off + j * 5 + 1, none⟩ = some (.int .i64 (D j).frame) ∧ W'.cell? ⟨g, off + j * 5 + 3, none⟩ = some (.int .i64 (D j).w.s) ∧ W'.cell? ⟨g, off + j * 5 + 4, none⟩ = some (.int .i64 (D j).w.p) ∧ W'.cell? ⟨g, off + j * 5, none⟩ = some (.int .i64 (D j).what)) := fun W' hb' => by
        obtain ⟨g', off', e', -, -, hc'⟩ := QDd.lst HLst.out hb' h1
        cases e'
        obtain ⟨c0, c1, c2, c3, c4⟩ := QDd.at hc'
        exact ⟨c1, c3, c4, c0⟩
      obtain ⟨code, l', hd, hll⟩ := add_ex l (D j).w.s (D j).w.p (D j).frame
      have HMEM : Hid (∀ x ∈ l', ∃ i, i < j + 1 ∧ (D i).w.s = x.s ∧ (D i).w.p = x.p) := fun x hx => by
        have hk : x = ⟨(D j).w.s, (D j).w.p, (D j).frame⟩ ∨ x ∈ l := by
          rcases hd with ⟨-, -, e⟩ | ⟨-, -, -, e⟩ | ⟨-, -, -, e⟩
          · rw [e] at hx; exact Or.inr hx
          · rw [e] at hx; exact Or.inr hx
          · rw [e] at hx; exact (put_mem _ _ _).1 hx
        rcases hk with rfl | hk
        · exact ⟨j, by omega, rfl, rfl⟩
        · obtain ⟨i, h1, h2⟩ := HB.out.2.2 x hk
          exact ⟨i, by omega, h2⟩
      generalize D j = d at *
      have hadd : Hid (∀ W', Below wr.heap.size wr W' → Calls Try.prog 11 #[.pointer (some ⟨m, 0, none⟩), .int .i64 d.frame, .agg #[.int .i64 d.w.s, .int .i64 d.w.p]] W' fun e w' => e = .returned (errV code) ∧ (w'.cell? ⟨g, off + j * 5 + 1, none⟩ = some (.int .i64 d.frame) ∧ w'.cell? ⟨g, off + j * 5 + 3, none⟩ = some (.int .i64 d.w.s) ∧ w'.cell? ⟨g, off + j * 5 + 4, none⟩ = some (.int .i64 d.w.p)) ∧ Hid (l'.length ≤ j + 1 ∧ Bec (fun _ => False) w ((RmT m l').and .emp) w' ∧ ∀ x ∈ l', ∃ i, i < j + 1 ∧ (D i).w.s = x.s ∧ (D i).w.p = x.p)) := fun W' hb' => by
        refine ((HB.out.2.1.below hb').addc hok.2.2.2.1 hok.2.2.2.2 hok.2.1 (by have := HB.out.1; omega) hd).mono ?_
        rintro e w' ⟨rfl, h3⟩
        obtain ⟨z1, z2, z3, -⟩ := HC.out w' h3.out.frame
        exact ⟨rfl, ⟨z1, z2, z3⟩, Nat.le_trans hll (by have := HB.out.1; omega), h3.out, HMEM.out⟩
      have HOK : Hid d.ok := hok
      obtain ⟨x1, x2, x3, -⟩ := HC.out wr HB.out.2.1.frame
      clear hglt hc hok hd hll HB HMEM
      go_wp2_with fail
      go_region_held3 (fun w' => w'.cell? ⟨g, off + j * 5 + 1, none⟩ = some (.int .i64 d.frame) ∧ w'.cell? ⟨g, off + j * 5 + 3, none⟩ = some (.int .i64 d.w.s) ∧ w'.cell? ⟨g, off + j * 5 + 4, none⟩ = some (.int .i64 d.w.p)) (go_keep) (first | (go_at_call 11; refine (hadd.out _ ?q1).mono ?_; (case q1 => first | exact Below.refl _ _ | exact (Below.refl _ _).drew); rintro e w4 ⟨rfl, ⟨y1, y2, y3⟩, HX⟩))
      clear hadd
      go_wp2
      go_roundw
      case rel => exact ⟨j + 1, _, h1, h2, by go_num, HX⟩
      case measure => simp only [intOf]; omega
    · have hx : (¬ (j : Int) < (len : Int)) ∨ ((j : Int) < (len : Int) ∧ ¬ (j : Int) < 30) := by omega
      clear hlt
      go_upto_region 6 with fail
      go_cut [26] from 19 to 26 (fun s38 wx => s38 = .bool false ∧ wr = wx)
      case first =>
        clear HB HLst
        rcases hx with hx | ⟨hx, hy⟩
        · go_wp2_with fail
          go_meet
          exact ⟨rfl, rfl⟩
        · go_wp2_with fail
          go_meet
          exact ⟨rfl, rfl⟩
      case rest =>
        obtain ⟨rfl, rfl⟩ := hcut
        clear hx
        obtain ⟨-, HB1, HMEM⟩ := HB.out
        have HJ : Hid (∀ x ∈ l, ∃ i, (i < len ∧ i < 30) ∧ (D i).w.s = x.s ∧ (D i).w.p = x.p) := fun x hx => by
          obtain ⟨i, h1, h2⟩ := HMEM x hx
          exact ⟨i, by omega, h2⟩
        obtain ⟨A3, h3⟩ := HB1.rmt
        have HL : Hid (MayR l ∧ l.length ≤ 4096) := HB1.may
        have hfr := frames_any h3
        have HB3 : Hid (Bec (fun _ => False) w ((RmT m l).and .emp) wr) := HB1
        clear HB HMEM h3 HB1 hj hj8
        go_wp2_with fail
        refine hfr.mono ?_
        rintro e w3 ⟨a3, c3, rfl, K3⟩
        have H3 : Hid (Bec (fun _ => False) w ((Th.row rNm (.slice a3 (framesI l).length c3) (framesI l)).and ((RmT m l).and .emp)) w3) := HB3.out.new K3.out
        clear hfr HB3 K3
        by_cases hno : framesI l = []
        · have hn0 : (framesI l).length = 0 := by rw [hno]; rfl
          have HE : Hid (Below w.heap.size w w3) := H3.out.frame
          rw [hn0]
          clear H3 hno hn0
          go_wp2
          go_ret
          exact ⟨rfl, HE.out⟩
        · have hpos : 0 < (framesI l).length := List.length_pos_iff.2 hno
          have hn2 : ¬ (((framesI l).length : Nat) : Int) = 0 := by omega
          have hn3 : ((((framesI l).length : Nat) : Int) == 0) = false := by simpa using hno
          have hn4 : (0 : Int) < (((framesI l).length : Nat) : Int) := by omega
          obtain ⟨G3, k3, cl3⟩ := H3.out.open
          obtain ⟨g3, rfl, -, -, hg3, -, -, hat⟩ := k3.2.at hpos
          have y0 := rNm.at hat
          simp only [show rNm.n = 1 from rfl, show Rec.zero rNm = (0 : Int) from rfl, Nat.zero_mul] at y0
          have hmem : (framesI l).getD 0 0 ∈ framesI l := by rw [List.getD_eq_getElem?_getD, List.getElem?_eq_getElem hpos]; exact List.getElem_mem hpos
          obtain ⟨x, hx, hxf⟩ := (framesI_mem HL.out.1).1 hmem
          have hxm := HL.out.1.2 x hx
          unfold Rw.may at hxm
          have HF0 : Hid ((framesI l).getD 0 0 = (framesI l).getD 0 0 ∧ 0 < (framesI l).length) := ⟨rfl, hpos⟩
          have hofp : 0 < (ofR l ((framesI l).getD 0 0)).length := List.length_pos_iff.2 fun e => by
            have := of_mem.2 ⟨hx, hxf⟩
            rw [e] at this
            simp at this
          obtain ⟨wz, hwz⟩ : ∃ wz, wz = (framesI l).getD 0 0 := ⟨_, rfl⟩
          rw [← hwz] at y0 hofp hxf
          have HWZ : Hid (wz = (framesI l).getD 0 0 ∧ 0 < (framesI l).length) := ⟨hwz, hpos⟩
          have HOP : Hid (0 < (ofR l wz).length ∧ (ofR l wz).length ≤ 4096) := ⟨hofp, Nat.le_trans (of_len l wz) HL.out.2⟩
          have hok : okI wz := ⟨by omega, by omega⟩
          have HOK : Hid (okI wz) := hok
          obtain ⟨A4, h4⟩ := H3.out.right.rmt
          have hof := of_any h4 hok
          clear k3 cl3 hat hmem hx hxf hxm hofp hwz hok h4 HF0 hno hpos
          go_wp2_with fail
          refine hof.mono ?_
          rintro e w4 ⟨a4, c4, rfl, K4⟩
          have H4 : Hid (Bec (fun _ => False) w ((Th.row rWh (.slice a4 (ofR l wz).length c4) (ofR l wz)).and ((Th.row rNm (.slice (some ⟨g3, 0, none⟩) (framesI l).length c3) (framesI l)).and ((RmT m l).and .emp))) w4) := H3.out.new K4.out
          clear hof H3 K4 y0 hn2 hn3 hg3
          obtain ⟨n, hn⟩ : ∃ n, n = (ofR l wz).length := ⟨_, rfl⟩
          have HN : Hid (n = (ofR l wz).length ∧ 0 < n ∧ n ≤ 4096) := ⟨hn, by rw [hn]; exact HOP.out.1, by rw [hn]; exact HOP.out.2⟩
          rw [← hn] at H4 ⊢
          have hn9 : n ≤ 9223372036854775807 := by have := HN.out; omega
          clear hn HOP
          go_wp2
          go_loopw [10] (fun iv wr => ∃ (i : Nat) (La : List Rw), i ≤ n ∧ iv = .int .i64 i ∧ Hid (La.length = n ∧ Bec (fun _ => False) w ((Th.row rWh (.slice a4 n c4) La).and ((Th.row rNm (.slice (some ⟨g3, 0, none⟩) (framesI l).length c3) (framesI l)).and ((RmT m l).and .emp))) wr)) (fun iv _ => n - (intOf iv).toNat)
          case atStart => exact ⟨0, _, Nat.zero_le _, rfl, HN.out.1.symm, H4.out⟩
          case round =>
            clear H4
            obtain ⟨i, La, hi, rfl, HB⟩ := hrel
            by_cases hil : i < n
            · have hii : (i : Int) < (n : Int) := by omega
              have hi0 : (0 : Int) ≤ (i : Int) := by omega
              obtain ⟨hLa, hB⟩ := HB.out
              obtain ⟨G5, k5, cl5⟩ := hB.open
              have hr5 := k5.2
              obtain ⟨g4, rfl, -, -, hg4, -, -, hat⟩ := hr5.at (k := i) (by rw [hLa]; exact hil)
              obtain ⟨x0, x1⟩ := rWh.at hat
              simp only [show rWh.n = 2 from rfl] at x0 x1
              have f0 := (hLa ▸ hr5 : Row rWh 0 wr (.slice (some ⟨g4, 0, none⟩) La.length c4) La).frozen (i * 2)
              have f1 := (hLa ▸ hr5 : Row rWh 0 wr (.slice (some ⟨g4, 0, none⟩) La.length c4) La).frozen (i * 2 + 1)
              have hp := Row.put hr5 i zR (by rw [hLa]; exact hil)
              have hw := cl5 (row_puts k5 hp)
              have hLa2 : (La.set i zR).length = n := by rw [List.length_set]; exact hLa
              simp only [show rWh.n = 2 from rfl, show rWh.cells zR = [.int .i64 0, .int .i64 0] from rfl, World.setCells] at hw
              have HX : Hid ((La.set i zR).length = n ∧ Bec (fun _ => False) w ((Th.row rWh (.slice (some ⟨g4, 0, none⟩) n c4) (La.set i zR)).and ((Th.row rNm (.slice (some ⟨g3, 0, none⟩) (framesI l).length c3) (framesI l)).and ((RmT m l).and .emp))) ((wr.setCell ⟨g4, i * 2, none⟩ (.int .i64 0)).setCell ⟨g4, i * 2 + 1, none⟩ (.int .i64 0))) := ⟨hLa2, hw⟩
              clear hLa hB k5 cl5 hr5 hat hp hw hLa2 HB
              go_wp2
              go_roundw
              case rel => exact ⟨i + 1, _, hil, by go_num, HX⟩
              case measure => simp only [intOf]; omega
            · obtain rfl : n = i := by omega
              have H5 : Hid (Bec (fun _ => False) w ((Th.row rNm (.slice (some ⟨g3, 0, none⟩) (framesI l).length c3) (framesI l)).and ((RmT m l).and .emp)) wr) := HB.out.2.right
              obtain ⟨G6, k6, cl6⟩ := H5.out.open
              obtain ⟨g7, e7, -, -, hg3, -, -, hat⟩ := k6.2.at HWZ.out.2
              cases e7
              have y0 := rNm.at hat
              simp only [show rNm.n = 1 from rfl, show Rec.zero rNm = (0 : Int) from rfl, Nat.zero_mul] at y0
              have f0 := k6.2.frozen 0
              have hp := Row.put k6.2 0 (-1) HWZ.out.2
              have hw := (cl6 (row_puts k6 hp)).right
              simp only [show rNm.n = 1 from rfl, show rNm.cells (-1) = [.int .i64 (-1)] from rfl, World.setCells, Nat.zero_mul] at hw
              obtain ⟨w6, hw6⟩ : ∃ w6, wr.setCell ⟨g3, 0, none⟩ (.int .i64 (-1)) = w6 := ⟨_, rfl⟩
              rw [hw6] at hw
              have H6 : Hid (Bec (fun _ => False) w ((RmT m l).and .emp) w6) := hw
              obtain ⟨A6, h6⟩ := hw.rmt
              have hcl := clone_any h6
              clear H5 k6 cl6 hat hp hw h6 HB hi hil
              go_wp2_with fail
              refine hcl.mono ?_
              rintro e w7 ⟨mc, rfl, K7⟩
              have H7 : Hid (Bec (fun _ => False) w ((RmT mc l).and ((RmT m l).and .emp)) w7) := H6.out.new K7.out
              clear hcl H6 K7 hw6 y0 f0 hg3
              go_wp2
              go_loopw [12] (fun iv wr => ∃ (j : Nat) (lc : List Rw), j ≤ len ∧ j ≤ 30 ∧ iv = .int .i64 j ∧ Hid (Bec (fun _ => False) w ((RmT mc lc).and ((RmT m l).and .emp)) wr ∧ ∀ x ∈ lc, x ∈ l ∧ ∀ i, i < j → ¬ ((D i).w.s = x.s ∧ (D i).w.p = x.p))) (fun iv _ => 30 - (intOf iv).toNat)
              case atStart => exact ⟨0, l, Nat.zero_le _, Nat.zero_le _, rfl, H7.out, fun x hx => ⟨hx, fun i hi => absurd hi (Nat.not_lt_zero _)⟩⟩
              case round =>
                clear H7
                obtain ⟨j, lc, hj, hj8, rfl, HB⟩ := hrel
                by_cases hlt : j < len ∧ j < 30
                · obtain ⟨h1, h2⟩ := hlt
                  have h1z : (j : Int) < (len : Int) := by omega
                  have h2z : (j : Int) < 30 := by omega
                  obtain ⟨g, off, rfl, hglt, hok, hc⟩ := QDd.lst HLst.out HB.out.1.frame h1
                  obtain ⟨x0, x1, x2, x3, x4⟩ := QDd.at hc
                  have hrem := HB.out.1.remc hok.2.2.2.1 hok.2.2.2.2
                  have HMEM : Hid (∀ x ∈ dropR lc (D j).w.s (D j).w.p, x ∈ l ∧ ∀ i, i < j + 1 → ¬ ((D i).w.s = x.s ∧ (D i).w.p = x.p)) := fun x hx => by
                    obtain ⟨k1, k2⟩ := drop_mem.1 hx
                    obtain ⟨k3, k4⟩ := HB.out.2 x k1
                    refine ⟨k3, fun i hi k => ?_⟩
                    rcases Nat.lt_or_eq_of_le (Nat.le_of_lt_succ hi) with e | rfl
                    · exact k4 i e k
                    · exact k2 ⟨k.1.symm, k.2.symm⟩
                  generalize D j = d at *
                  clear hglt hok hc HB x0 x1 x2
                  go_wp2_with fail
                  refine hrem.mono ?_
                  rintro e w8 ⟨rfl, H8⟩
                  have HX : Hid (Bec (fun _ => False) w ((RmT mc (dropR lc d.w.s d.w.p)).and ((RmT m l).and .emp)) w8 ∧ ∀ x ∈ dropR lc d.w.s d.w.p, x ∈ l ∧ ∀ i, i < j + 1 → ¬ ((D i).w.s = x.s ∧ (D i).w.p = x.p)) := ⟨H8.out, HMEM.out⟩
                  clear hrem H8 HMEM x3 x4
                  go_wp2
                  go_roundw
                  case rel => exact ⟨j + 1, _, h1, h2, by go_num, HX⟩
                  case measure => simp only [intOf]; omega
                · have hx : (¬ (j : Int) < (len : Int)) ∨ ((j : Int) < (len : Int) ∧ ¬ (j : Int) < 30) := by omega
                  have hlc : lc = [] := by
                    cases lc with
                    | nil => rfl
                    | cons x r =>
                      obtain ⟨k1, k2⟩ := HB.out.2 x (by simp)
                      obtain ⟨i, hi, k3⟩ := HJ.out x k1
                      exact absurd k3 (k2 i (by omega))
                  clear hlt
                  go_upto_region 24 with fail
                  go_cut [78] from 71 to 78 (fun s38 wx => s38 = .bool false ∧ wr = wx)
                  case first =>
                    clear HB HLst
                    rcases hx with hx | ⟨hx, hy⟩
                    · go_wp2_with fail
                      go_meet
                      exact ⟨rfl, rfl⟩
                    · go_wp2_with fail
                      go_meet
                      exact ⟨rfl, rfl⟩
                  case rest =>
                    obtain ⟨rfl, rfl⟩ := hcut
                    clear hx
                    subst hlc
                    have H8 : Hid (Bec (fun _ => False) w ((RmT mc []).and ((RmT m l).and .emp)) wr) := HB.out.1
                    obtain ⟨A8, h8⟩ := H8.out.right.rmt
                    have hfr := frames_any h8
                    clear HB h8 hj hj8
                    go_wp2_with fail
                    refine hfr.mono ?_
                    rintro e w9 ⟨a9, c9, rfl, K9⟩
                    have H9 : Hid (Bec (fun _ => False) w ((RmT mc []).and ((RmT m l).and .emp)) w9) := H8.out.below K9.out.frame
                    obtain ⟨G9, -, R9, -⟩ := K9.out
                    have HR9 : Hid (Row rNm 0 w9 (.slice a9 (framesI l).length c9) (framesI l)) := R9.2
                    obtain ⟨A9, h9⟩ := H9.out.right.rmt
                    have hof := of_any h9 HOK.out
                    clear hfr H8 h9 K9 R9
                    go_wp2_with fail
                    refine hof.mono ?_
                    rintro e w10 ⟨a10, c10, rfl, K10⟩
                    have H10 : Hid (Bec (fun _ => False) w ((RmT mc []).and ((RmT m l).and .emp)) w10) := H9.out.below K10.out.frame
                    have HR10 : Hid (Row rNm 0 w10 (.slice a9 (framesI l).length c9) (framesI l)) := HR9.out.below K10.out.frame
                    obtain ⟨G10, -, R10, -⟩ := K10.out
                    have HQ10 : Hid (Row rWh 0 w10 (.slice a10 (ofR l wz).length c10) (ofR l wz)) := R10.2
                    obtain ⟨A10, h10⟩ := H10.out.rmt
                    have hfc := frames_any h10
                    rw [show framesI [] = [] from rfl] at hfc
                    clear hof H9 K10 R10 h10 HR9
                    go_wp2_with fail
                    refine hfc.mono ?_
                    rintro e w11 ⟨a11, c11, rfl, K11⟩
                    have H11 : Hid (Bec (fun _ => False) w ((RmT mc []).and ((RmT m l).and .emp)) w11) := H10.out.below K11.out.frame
                    have hct := H11.out.cnt HOK.out
                    rw [show ofR [] wz = [] from rfl, List.length_nil] at hct
                    have hr11 := HR10.out.below K11.out.frame
                    have hq11 := HQ10.out.below K11.out.frame
                    obtain ⟨g9, rfl, -, -, hg9, -, -, hat9⟩ := hr11.at HWZ.out.2
                    have z0 := rNm.at hat9
                    simp only [show rNm.n = 1 from rfl, show Rec.zero rNm = (0 : Int) from rfl, Nat.zero_mul] at z0
                    rw [← HWZ.out.1] at z0
                    obtain ⟨g10, rfl, -, -, hg10, -, -, hat10⟩ := hq11.at (k := 0) (by rw [← HN.out.1]; exact HN.out.2.1)
                    obtain ⟨z1, -⟩ := rWh.at hat10
                    simp only [show rWh.n = 2 from rfl, show Rec.zero rWh = zR from rfl, Nat.zero_mul] at z1
                    have hsp : 0 < ((ofR l wz).getD 0 zR).s := by
                      have h1 : 0 < (ofR l wz).length := by rw [← HN.out.1]; exact HN.out.2.1
                      have h2 : (ofR l wz).getD 0 zR ∈ ofR l wz := by rw [List.getD_eq_getElem?_getD, List.getElem?_eq_getElem h1]; exact List.getElem_mem h1
                      have h3 := HL.out.1.2 _ (of_mem.1 h2).1
                      unfold Rw.may at h3
                      omega
                    generalize ((ofR l wz).getD 0 zR).s = sp at *
                    rw [← HN.out.1]
                    have hni : ¬ ((n : Nat) : Int) = 0 := by have := HN.out.2.1; omega
                    have hni2 : (((n : Nat) : Int) == 0) = false := by simpa using hni
                    have HE : Hid (Below w.heap.size w w11) := H11.out.frame
                    clear hfc H10 K11 HR10 HQ10 hr11 hq11 hat9 hat10 H11
                    rw [List.length_nil]
                    go_wp2_with fail
                    refine hct.mono ?_
                    rintro e w12 ⟨rfl, hw⟩
                    obtain rfl := hw.symm
                    clear hw hct
                    go_wp2
                    go_ret
                    exact ⟨rfl, HE.out⟩
end Go.Proofs.Ytdeaniigimmoaaa
