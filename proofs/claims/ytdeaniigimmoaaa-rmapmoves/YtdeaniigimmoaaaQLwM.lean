/- RmapMoves walked. -/
import Derived.Test.YtdeaniigimmoaaaJE
import Derived.Test.YtdeaniigimmoaaaJD
namespace Go.Proofs.Ytdeaniigimmoaaa
open Go.RowKit

/-- What is moved is told as it was. -/
theorem moved_of {l l' : List Rw} {a b : Int} (h : MoveD l a b 0 l') : (ofR l' b).length = (ofR l a).length ∧ (ofR l' a) = [] ∧ (pagesR l' 1).length = (pagesR l 1).length ∧ ∀ i, ((ofR l' b).getD i zR).s = ((ofR l a).getD i zR).s ∧ ((ofR l' b).getD i zR).p = ((ofR l a).getD i zR).p := by
  rcases h with ⟨-, k, -⟩ | ⟨-, -, k, -⟩ | ⟨⟨-, -, hab⟩, hb, -, rfl⟩
  · simp at k
  · simp at k
  have hb' : ∀ x ∈ l, x.f ≠ b := fun x hx e => by
    have := of_mem.2 ⟨hx, e⟩
    rw [hb] at this
    simp at this
  obtain ⟨h1, h2⟩ := move_of hab hb'
  have h3 := congrArg List.length h2
  rw [List.length_map, List.length_map] at h3
  refine ⟨h3, h1, ?_, fun i => ?_⟩
  · clear h1 h2 h3 hb hb'
    unfold moveR pagesR
    induction l with
    | nil => rfl
    | cons x l ih =>
      rw [List.map_cons]
      by_cases e : x.f = a
      · rw [if_pos e]
        by_cases e2 : x.s = 1
        · rw [List.filter_cons_of_pos (by simpa using e2), List.filter_cons_of_pos (by simpa using e2), List.length_cons, List.length_cons, ih]
        · rw [List.filter_cons_of_neg (by simpa using e2), List.filter_cons_of_neg (by simpa using e2), ih]
      · rw [if_neg e]
        by_cases e2 : x.s = 1
        · rw [List.filter_cons_of_pos (by simpa using e2), List.filter_cons_of_pos (by simpa using e2), List.length_cons, List.length_cons, ih]
        · rw [List.filter_cons_of_neg (by simpa using e2), List.filter_cons_of_neg (by simpa using e2), ih]
  · have h4 : (ofR (moveR l a b) b)[i]?.map (fun x => (x.s, x.p)) = (ofR l a)[i]?.map fun x => (x.s, x.p) := by
      rw [← List.getElem?_map, ← List.getElem?_map, h2]
    rw [List.getD_eq_getElem?_getD, List.getD_eq_getElem?_getD]
    cases e1 : (ofR (moveR l a b) b)[i]? <;> cases e2 : (ofR l a)[i]? <;> rw [e1, e2] at h4 <;> simp at h4 ⊢
    exact h4
set_option maxRecDepth 100000 in
set_option maxHeartbeats 16000000 in
theorem walk_rmapMoves (ao : Option Addr) (len cap : Nat) (D : Nat → QDd) (a b : Int) (w : World) (hm : len ≤ maxLen) (hL : Lst QDd.cells QDd.ok 5 w ao len D) (ha : -9223372036854775808 ≤ a ∧ a ≤ 9223372036854775807) (hb : -9223372036854775808 ≤ b ∧ b ≤ 9223372036854775807) :
    Calls Try.prog 6 #[.slice ao len cap, .int .i64 a, .int .i64 b] w fun e w' => e = .returned (.bool true) ∧ Below w.heap.size w w' := by
  have hm' : len ≤ 9223372036854775807 := by unfold maxLen at hm; omega
  have HLst : Hid (Lst QDd.cells QDd.ok 5 w ao len D) := hL
  have HAB : Hid (okI a ∧ okI b) := ⟨ha, hb⟩
  clear hL hm ha hb
  go_enter Try.func6, Try.ntmps6
  go_wp2_with fail
  refine (up_any _).mono ?_
  rintro e w1 ⟨rfl, L1⟩
  go_wp2_with fail
  refine (new_any _).mono ?_
  rintro e w2 ⟨m, rfl, hb⟩
  have HP0 : Hid (Bec (fun _ => False) w ((RmT m []).and .emp) w2) := rm_start (Bec.base L1.out hb.out)
  clear hb L1
  go_wp2_with fail
  go_loopw [9] (fun iv wr => ∃ (j : Nat) (l : List Rw), j ≤ len ∧ j ≤ 60 ∧ iv = .int .i64 j ∧ Hid (l.length ≤ j ∧ Bec (fun _ => False) w ((RmT m l).and .emp) wr ∧ ∀ x ∈ l, ∃ i, i < j ∧ (D i).w.s = x.s ∧ (D i).w.p = x.p)) (fun iv _ => 60 - (intOf iv).toNat)
  case atStart => exact ⟨0, [], Nat.zero_le _, Nat.zero_le _, rfl, Nat.zero_le _, HP0.out, by simp⟩
  case round =>
    obtain ⟨j, l, hj, hj8, rfl, HB⟩ := hrel
    clear HP0
    by_cases hlt : j < len ∧ j < 60
    · obtain ⟨h1, h2⟩ := hlt
      have h1z : (j : Int) < (len : Int) := by omega
      have h2z : (j : Int) < 60 := by omega
      obtain ⟨g, off, rfl, hglt, hok, hc⟩ := QDd.lst HLst.out HB.out.2.1.frame h1
      have HC : Hid (∀ W', Below w.heap.size w W' → W'.cell? ⟨g, off + j * 5 + 1, none⟩ = some (.int .i64 (D j).frame) ∧ W'.cell? ⟨g, off + j * 5 + 3, none⟩ = some (.int .i64 (D j).w.s) ∧ W'.cell? ⟨g, off + j * 5 + 4, none⟩ = some (.int .i64 (D j).w.p) ∧ W'.cell? ⟨g, off + j * 5, none⟩ = some (.int .i64 (D j).what)) := fun W' hb' => by
        obtain ⟨g', off', e', -, -, hc'⟩ := QDd.lst HLst.out hb' h1
        cases e'
        obtain ⟨c0, c1, c2, c3, c4⟩ := QDd.at hc'
        exact ⟨c1, c3, c4, c0⟩
      obtain ⟨code, l', hd, hll⟩ := add_ex l (D j).w.s (D j).w.p (D j).frame
      have HMEM : Hid (∀ x ∈ l', ∃ i, i < j + 1 ∧ (D i).w.s = x.s ∧ (D i).w.p = x.p) := fun x hx => by
        have hk : x = ⟨(D j).w.s, (D j).w.p, (D j).frame⟩ ∨ x ∈ l := by
          rcases hd with ⟨-, -, e⟩ | ⟨-, -, -, e⟩ | ⟨-, -, -, e⟩
          · rw [e] at hx; exact Or.inr hx
          · rw [e] at hx; exact Or.inr hx
          · rw [e] at hx; exact (put_mem _ _ _).1 hx
        rcases hk with rfl | hk
        · exact ⟨j, by omega, rfl, rfl⟩
        · obtain ⟨i, h1, h2⟩ := HB.out.2.2 x hk
          exact ⟨i, by omega, h2⟩
      generalize D j = d at *
      have hadd : Hid (∀ W', Below wr.heap.size wr W' → Calls Try.prog 11 #[.pointer (some ⟨m, 0, none⟩), .int .i64 d.frame, .agg #[.int .i64 d.w.s, .int .i64 d.w.p]] W' fun e w' => e = .returned (errV code) ∧ (w'.cell? ⟨g, off + j * 5 + 1, none⟩ = some (.int .i64 d.frame) ∧ w'.cell? ⟨g, off + j * 5 + 3, none⟩ = some (.int .i64 d.w.s) ∧ w'.cell? ⟨g, off + j * 5 + 4, none⟩ = some (.int .i64 d.w.p)) ∧ Hid (l'.length ≤ j + 1 ∧ Bec (fun _ => False) w ((RmT m l').and .emp) w' ∧ ∀ x ∈ l', ∃ i, i < j + 1 ∧ (D i).w.s = x.s ∧ (D i).w.p = x.p)) := fun W' hb' => by
        refine ((HB.out.2.1.below hb').addc hok.2.2.2.1 hok.2.2.2.2 hok.2.1 (by have := HB.out.1; omega) hd).mono ?_
        rintro e w' ⟨rfl, h3⟩
        obtain ⟨z1, z2, z3, -⟩ := HC.out w' h3.out.frame
        exact ⟨rfl, ⟨z1, z2, z3⟩, Nat.le_trans hll (by have := HB.out.1; omega), h3.out, HMEM.out⟩
      have HOK : Hid d.ok := hok
      obtain ⟨x1, x2, x3, -⟩ := HC.out wr HB.out.2.1.frame
      clear hglt hc hok hd hll HB HMEM
      go_wp2_with fail
      go_region_held3 (fun w' => w'.cell? ⟨g, off + j * 5 + 1, none⟩ = some (.int .i64 d.frame) ∧ w'.cell? ⟨g, off + j * 5 + 3, none⟩ = some (.int .i64 d.w.s) ∧ w'.cell? ⟨g, off + j * 5 + 4, none⟩ = some (.int .i64 d.w.p)) (go_keep) (first | (go_at_call 11; refine (hadd.out _ ?q1).mono ?_; (case q1 => first | exact Below.refl _ _ | exact (Below.refl _ _).drew); rintro e w4 ⟨rfl, ⟨y1, y2, y3⟩, HX⟩))
      clear hadd
      go_wp2
      go_roundw
      case rel => exact ⟨j + 1, _, h1, h2, by go_num, HX⟩
      case measure => simp only [intOf]; omega
    · have hx : (¬ (j : Int) < (len : Int)) ∨ ((j : Int) < (len : Int) ∧ ¬ (j : Int) < 60) := by omega
      clear hlt
      go_upto_region 6 with fail
      go_cut [26] from 19 to 26 (fun s38 wx => s38 = .bool false ∧ wr = wx)
      case first =>
        clear HB HLst
        rcases hx with hx | ⟨hx, hy⟩
        · go_wp2_with fail
          go_meet
          exact ⟨rfl, rfl⟩
        · go_wp2_with fail
          go_meet
          exact ⟨rfl, rfl⟩
      case rest =>
        obtain ⟨rfl, rfl⟩ := hcut
        clear hx
        obtain ⟨-, HB1, -⟩ := HB.out
        have hof := HB1.ofc HAB.out.1
        clear HB
        go_wp2_with fail
        refine hof.mono ?_
        rintro e w3 ⟨a3, c3, rfl, H3⟩
        have hpg := H3.out.1.pgs (s := 1) ⟨by omega, by omega⟩
        clear hof HB1
        go_wp2_with fail
        refine hpg.mono ?_
        rintro e w4 ⟨a4, c4, rfl, H4⟩
        have HB4 : Hid (Bec (fun _ => False) w ((RmT m l).and (Th.emp.and (.row rWh (.slice a3 (ofR l a).length c3) (ofR l a)))) w4) := H4.out.1
        obtain ⟨code, l', hd⟩ := move_ex l a b
        have hmv := HB4.out.movc HAB.out.1 HAB.out.2 hd
        clear hpg H3 H4
        by_cases hc0 : code = 0
        · subst hc0
          rw [errV0] at hmv
          obtain ⟨m1, m2, m3, m4⟩ := moved_of hd
          have HM4 : Hid (∀ i, ((ofR l' b).getD i zR).s = ((ofR l a).getD i zR).s ∧ ((ofR l' b).getD i zR).p = ((ofR l a).getD i zR).p) := m4
          have HMM : Hid ((ofR l' b).length = (ofR l a).length ∧ (ofR l' a) = [] ∧ (pagesR l' 1).length = (pagesR l 1).length) := ⟨m1, m2, m3⟩
          clear m1 m2 m3 m4 hd
          go_wp2_with fail
          refine hmv.mono ?_
          rintro e w5 ⟨rfl, H5⟩
          have hof := H5.out.ofc HAB.out.2
          clear hmv HB4
          go_wp2_with fail
          refine hof.mono ?_
          rintro e w6 ⟨a6, c6, rfl, H6⟩
          have HB6 : Hid (Bec (fun _ => False) w ((RmT m l').and (Th.emp.and (.row rWh (.slice a3 (ofR l a).length c3) (ofR l a)))) w6) := H6.out.2.1
          have HR6 : Hid (Row rWh 0 w6 (.slice a6 (ofR l' b).length c6) (ofR l' b)) := H6.out.2.2.2
          have hct := HB6.out.cnt HAB.out.1
          rw [HMM.out.2.1, List.length_nil] at hct
          rw [HMM.out.1]
          clear hof H5 H6
          go_wp2_with fail
          refine hct.mono ?_
          rintro e w7 ⟨rfl, hw⟩
          obtain rfl := hw.symm
          have hpg := HB6.out.pgs (s := 1) ⟨by omega, by omega⟩
          clear hct hw
          go_wp2_with fail
          refine hpg.mono ?_
          rintro e w8 ⟨a8, c8, rfl, H8⟩
          have HB8 : Hid (Bec (fun _ => False) w ((RmT m l').and (Th.emp.and (.row rWh (.slice a3 (ofR l a).length c3) (ofR l a)))) w8) := H8.out.1
          have HR8 : Hid (Row rWh 0 w8 (.slice a6 (ofR l' b).length c6) (ofR l' b)) := HR6.out.below H8.out.2.1
          have HQ8 : Hid (Row rWh 0 w8 (.slice a3 (ofR l a).length c3) (ofR l a)) := by
            obtain ⟨G, k, -⟩ := HB8.out.right.right.next
            exact k.2
          rw [HMM.out.2.2]
          have hl9 : (ofR l a).length ≤ 9223372036854775807 := by
            obtain ⟨A, k⟩ := HB8.out.rmt
            have h1 := HB8.out.may.2
            have h2 := of_len l' b
            have h3 := HMM.out.1
            omega
          clear hpg HB6 HR6 H8
          go_wp2
          go_loopw [14] (fun iv wr => ∃ i : Nat, i ≤ (ofR l a).length ∧ iv = .int .i64 i ∧ Hid (Below w8.heap.size w8 wr)) (fun iv _ => (ofR l a).length - (intOf iv).toNat)
          case atStart => exact ⟨0, Nat.zero_le _, rfl, Below.refl _ _⟩
          case round =>
            obtain ⟨i, hi, rfl, HB⟩ := hrel
            by_cases hil : i < (ofR l a).length
            · have hii : (i : Int) < ((ofR l a).length : Int) := by omega
              have hi0 : (0 : Int) ≤ (i : Int) := by omega
              obtain ⟨g1, rfl, -, -, hg1, -, -, hat1⟩ := (HQ8.out.below HB.out).at hil
              obtain ⟨g2, rfl, -, -, hg2, -, -, hat2⟩ := (HR8.out.below HB.out).at (k := i) (by rw [HMM.out.1]; exact hil)
              obtain ⟨x0, x1⟩ := rWh.at hat1
              obtain ⟨y0, y1⟩ := rWh.at hat2
              simp only [show rWh.n = 2 from rfl, show Rec.zero rWh = zR from rfl] at x0 x1 y0 y1
              rw [(HM4.out i).1] at y0
              rw [(HM4.out i).2] at y1
              have hq := fun w => neq_wh0 ((ofR l a).getD i zR).s ((ofR l a).getD i zR).p w
              clear hat1 hat2
              generalize (ofR l a).getD i zR = x at *
              go_wp2
              go_quiet (fail)
              go_wp2
              go_roundw
              case rel => exact ⟨i + 1, hil, by go_num, below_drewN HB.out _⟩
              case measure => simp only [intOf]; omega
            · obtain rfl : i = (ofR l a).length := by omega
              have HE : Hid (Below w.heap.size w wr) := below_call' HB8.out.frame HB.out
              go_wp2
              go_ret
              exact ⟨rfl, HE.out⟩
        · have hl' : l' = l := by
            rcases hd with ⟨-, -, k⟩ | ⟨-, -, -, k⟩ | ⟨-, -, k, -⟩
            · exact k
            · exact k
            · exact absurd k hc0
          subst hl'
          rw [errV_ne hc0] at hmv
          clear hd
          go_wp2_with fail
          refine hmv.mono ?_
          rintro e w5 ⟨rfl, H5⟩
          have hof := H5.out.ofc HAB.out.1
          clear hmv HB4
          go_wp2_with fail
          refine hof.mono ?_
          rintro e w6 ⟨a6, c6, rfl, H6⟩
          have HE : Hid (Below w.heap.size w w6) := H6.out.2.1.frame
          clear hof H5 H6
          go_wp2
          go_ret
          exact ⟨rfl, HE.out⟩
end Go.Proofs.Ytdeaniigimmoaaa
