/- BuddyWhole, walked. -/
import Derived.Test.YtbpihdeinkopfaaDoorUWhM
import Derived.Deep.CutRange
import Derived.Lib.ItoaWalk
namespace Go.Proofs.YtbpihdeinkopfaaDoor
open Go.RowKit

/-- Two stores, the second as at first; a row of what is taken of the first. -/
def WI (w W : World) (p n q : Nat) (u : Value) (lo hi : Nat) (vt : Value) (L K : List Bk) : Prop :=
  ∃ G, Ow w W p n L G ∧ Row rB hi W vt K ∧ (∀ g, vt.ownBlock = some g → G g) ∧ Sto (fun c => lo ≤ c ∧ c < hi) W q n u (blkL 0 n) ∧ (∀ c, lo ≤ c ∧ c < hi → G c) ∧ w.heap.size ≤ hi
section
variable {w W W' : World} {p n q : Nat} {u : Value} {lo hi : Nat} {vt : Value} {L K : List Bk}
theorem WI.below (h : WI w W p n q u lo hi vt L K) (hb : Below W.heap.size W W') : WI w W' p n q u lo hi vt L K := by
  obtain ⟨G, h1, h2, h3, h4, h5, h6⟩ := h
  exact ⟨G, h1.below hb, h2.below hb, h3, h4.below hb, h5, h6⟩
theorem WI.ow (h : WI w W p n q u lo hi vt L K) : ∃ G, Ow w W p n L G := by
  obtain ⟨G, h1, _⟩ := h
  exact ⟨G, h1⟩
theorem WI.free (h : WI w W p n q u lo hi vt L K) : Calls Tryd.prog 20 #[.pointer (some ⟨p, 0, none⟩)] W (ClonePrB W L) := by
  obtain ⟨G, h1⟩ := h.ow
  exact h1.free
theorem WI.free2 (h : WI w W p n q u lo hi vt L K) : Calls Tryd.prog 20 #[.pointer (some ⟨q, 0, none⟩)] W (ClonePrB W (blkL 0 n)) := by
  obtain ⟨G, h1, h2, h3, h4, h5, h6⟩ := h
  exact free_any h4 (new_okl h1.ok.max)
theorem WI.count (h : WI w W p n q u lo hi vt L K) : Calls Tryd.prog 21 #[.pointer (some ⟨p, 0, none⟩)] W fun e w' => e = .returned (.int .i64 (size L)) ∧ Below W.heap.size W w' := by
  obtain ⟨G, h1⟩ := h.ow
  exact h1.count
theorem WI.row (h : WI w W p n q u lo hi vt L K) : Row rB hi W vt K := by
  obtain ⟨G, _, h2, _⟩ := h
  exact h2
theorem WI.frame (h : WI w W p n q u lo hi vt L K) : Below w.heap.size w W := by
  obtain ⟨G, h1⟩ := h.ow
  exact h1.frame
theorem WI.hile (h : WI w W p n q u lo hi vt L K) : hi ≤ W.heap.size + 1 := by
  obtain ⟨G, h1, h2, h3, h4, h5, h6⟩ := h
  rcases Nat.lt_or_ge lo hi with c | c
  · have := h4.lt (hi - 1) (by omega)
    omega
  · have := h4.lt q h4.fp
    have := h4.fp
    omega
theorem WI.size (h : WI w W p n q u lo hi vt L K) : hi ≤ W.heap.size ∨ lo ≥ hi := by
  obtain ⟨G, h1, h2, h3, h4, h5, h6⟩ := h
  rcases Nat.lt_or_ge lo hi with c | c
  · have := h4.lt (hi - 1) (by omega)
    omega
  · exact Or.inr c
/-- Another row in its place, all of it new. -/
theorem WI.fresh {v' : Value} {K' : List Bk} (h : WI w W p n q u lo hi vt L K) (hb : Below W.heap.size W W') (hr : Row rB hi W' v' K') (hn : ∀ g, v'.ownBlock = some g → W.heap.size ≤ g) : WI w W' p n q u lo hi v' L K' := by
  obtain ⟨G, h1, h2, h3, h4, h5, h6⟩ := h
  exact ⟨plus G W W', h1.more hb, hr, fun g hg => Or.inr ⟨hn g hg, (hr.lt g hg).2⟩, h4.below hb, fun c hc => Or.inl (h5 c hc), h6⟩
/-- One more. -/
theorem WI.app {W1 : World} {v' : Value} {K' : List Bk} (h : WI w W p n q u lo hi vt L K) (hb : Below W.heap.size W W1) (hg : W1.grownBy W' vt.ownBlock) (hr : Row rB hi W' v' K') (hw : ∀ g, v'.ownBlock = some g → vt.ownBlock = some g ∨ W1.heap.size ≤ g) : WI w W' p n q u lo hi v' L K' := by
  obtain ⟨G, h1, h2, h3, h4, h5, h6⟩ := h
  have hk := Keeps.of_grown hg
  have h1' := h1.more hb
  have hin : ∀ c, vt.ownBlock = some c → plus G W W1 c ∧ w.heap.size ≤ c := fun c hc => ⟨Or.inl (h3 c hc), by have := (h2.lt c hc).1; omega⟩
  refine ⟨plus (plus G W W1) W1 W', h1'.grow hk fun c _ e => hin c e, hr, fun g hg' => ?_, (h4.below hb).keeps hk fun c hc e => ?_, fun c hc => Or.inl (Or.inl (h5 c hc)), h6⟩
  · rcases hw g hg' with e | e
    · exact Or.inl (hin g e).1
    · exact Or.inr ⟨e, (hr.lt g hg').2⟩
  · have := (h2.lt c e).1
    omega
theorem WI.take (h : WI w W p n q u lo hi vt L K) (hT : Tab w) (o : Nat) (h5 : o ≤ 5) : Calls Tryd.prog 14 #[.pointer (some ⟨p, 0, none⟩), .int .i64 o] W fun e W' =>
    match lst o L L.length with
    | none => e = .returned (.tuple #[.int .i64 0, .iface 28 (.int .i64 5)]) ∧ WI w W' p n q u lo hi vt L K
    | some m => e = .returned (.tuple #[.int .i64 (L.getD m (0, 0)).1, .nilIface]) ∧ ∃ L', WI w W' p n q u lo hi vt L' K ∧ Okl n L' ∧ ∀ x, cov L' x ↔ cov L x ∧ ¬ inB ((L.getD m (0, 0)).1, o) x := by
  obtain ⟨G, h1, h2, h3, h4, h5', h6⟩ := h
  refine (h1.take hT o h5).mono ?_
  intro e w' ht
  unfold TakeO at ht
  cases hl : lst o L L.length with
  | none =>
    rw [hl] at ht
    obtain ⟨e1, t1, t2⟩ := ht
    exact ⟨e1, G, t1, t2.row h2 h3, h3, t2.sto h4 h5', h5', h6⟩
  | some m =>
    rw [hl] at ht
    obtain ⟨e1, L', t1, t2, t3⟩ := ht
    exact ⟨e1, L', ⟨G, t1, t2.row h2 h3, h3, t2.sto h4 h5', h5', h6⟩, t1.ok, t3⟩
theorem WI.give {b : Bk} {K1 : List Bk} (h : WI w W p n q u lo hi vt L K) (ht : Tk n L (b :: K1)) : Calls Tryd.prog 19 #[.pointer (some ⟨p, 0, none⟩), .int .i64 b.1, .int .i64 b.2] W fun e W' =>
    e = .returned .nilIface ∧ ∃ L', WI w W' p n q u lo hi vt L' K ∧ Tk n L' K1 ∧ ∀ g, vt.ownBlock = some g → W'.heap[g]? = W.heap[g]? := by
  obtain ⟨G, h1, h2, h3, h4, h5', h6⟩ := h
  have hb := ht.al b (by simp)
  refine (h1.give b hb.1 hb.2).mono ?_
  rintro e w' ⟨t, -⟩
  obtain ⟨rfl, L', t1, t2, t3⟩ := t ht.allB
  exact ⟨rfl, L', ⟨G, t1, t2.row h2 h3, h3, t2.sto h4 h5', h5', h6⟩, ht.give t1.ok t3, fun g hg => t2.block g (h2.lt g hg).2 fun e => e (h3 g hg)⟩
end

set_option maxRecDepth 100000 in
set_option maxHeartbeats 32000000 in
theorem walk_buddyWhole (a0 : Int) (ao : Option Addr) (len cap : Nat) (D : Nat → UDd) (w : World) (hT : Tab w) (b0 : -9223372036854775808 ≤ a0 ∧ a0 ≤ 9223372036854775807) (hm : len ≤ maxLen) (hL : Lst UDd.cells UDd.ok 3 w ao len D) :
    Calls Tryd.prog 5 #[.int .i64 a0, .slice ao len cap] w fun e w' => e = .returned (.bool true) ∧ Below w.heap.size w w' := by
  have hU := up_any w hT
  have hP0 := fun w => pick_any a0 200 w b0.1 b0.2 (by decide) (by decide)
  have l0 := pickN_lt a0 200 (by decide)
  obtain ⟨n, hn⟩ : ∃ n, n = 1 + pickN a0 200 := ⟨_, rfl⟩
  have hnz : (1 : Int) + (pickN a0 200 : Int) = (n : Int) := by omega
  have hn1 : 1 ≤ n := by omega
  have hn2 : n ≤ 200 := by omega
  have hmz : len ≤ 9223372036854775807 := by unfold maxLen at hm; omega
  have HT : Hid (Tab w) := hT
  have HL : Hid (Lst UDd.cells UDd.ok 3 w ao len D) := hL
  clear hT hn hL hm
  go_enter Tryd.func5, Tryd.ntmps5
  go_wp2_with fail
  refine hU.mono ?_
  rintro e w1 ⟨rfl, hb1⟩
  have hN := owNew (G := fun _ => False) HT.out hb1 (fun _ h => h.elim) n hn1 (by omega)
  clear hU
  go_wp2_with (go_at_call 12; refine (hP0 _).mono ?_; rintro e w2 ⟨rfl, hw⟩; obtain rfl := hw.symm; clear hw)
  refine hN.mono ?_
  rintro e w2 ⟨p, rfl, O2, -⟩
  have hN2 := new_yes n w2 (O2.tab HT.out) hn1 (by omega)
  clear hN hb1
  go_wp2_with fail
  refine hN2.mono ?_
  rintro e w3 ⟨q, rfl, ⟨u, S3⟩, hb3⟩
  have HW0 : Hid (WI w w3 p n q u w2.heap.size w3.heap.size (.slice none 0 0) (blkL 0 n) [] ∧ Tk n (blkL 0 n) []) :=
    ⟨⟨plus (fun _ => False) w2 w3, O2.more hb3, Row.nil _ _ _, fun g hg => (by cases hg), S3, fun c hc => Or.inr hc, Nat.le_trans O2.frame.size hb3.size⟩, Tk.new (by omega)⟩
  generalize w2.heap.size = lo at *
  generalize hhi : w3.heap.size = hi at *
  clear hN2 O2 S3 hb3 hhi
  go_wp2_with fail
  go_loopw [10, 11] (fun vt iv W => ∃ (k : Nat) (L K : List Bk), k ≤ len ∧ k ≤ 80 ∧ iv = .int .i64 k ∧ K.length ≤ k ∧ Hid (WI w W p n q u lo hi vt L K ∧ Tk n L K)) (fun _ iv _ => len - (intOf iv).toNat)
  case atStart => exact ⟨0, _, _, Nat.zero_le _, by omega, rfl, Nat.le_refl _, HW0⟩
  case round =>
    obtain ⟨k, L, K, hk, hk8, rfl, hKl, HI⟩ := hrel
    clear HW0
    obtain ⟨at1, ct1, rfl⟩ := HI.out.1.row.form
    by_cases hlt : k < len ∧ k < 80
    · have hz1 : (k : Int) < (len : Int) := by omega
      have hz2 : (k : Int) < 80 := by omega
      obtain ⟨bb, off, rfl, hbw, hal⟩ := (HL.out.below HI.out.1.frame).at hlt.1
      obtain ⟨hok, hcl⟩ := hal k hlt.1
      have c0 := hcl 0 (by decide)
      have c1 := hcl 1 (by decide)
      have c2 := hcl 2 (by decide)
      simp [UDd.cells] at c0 c1 c2
      obtain ⟨⟨p1, p2⟩, ⟨q1, q2⟩, r1, r2⟩ := hok
      have hPa := fun w => pick_any (D k).what 3 w p1 p2 (by decide) (by decide)
      generalize hda : D k = dd at *
      obtain ⟨dw, df, dor⟩ := dd
      simp only at *
      have HD : Hid (WI w (wr.alloc (.cells #[.int .i64 dw, .int .i64 df, .int .i64 dor] 37)) p n q u lo hi (.slice at1 K.length ct1) L K ∧ Tk n L K) := ⟨HI.out.1.below ((Below.refl _ _).alloc (Nat.le_refl _) _), HI.out.2⟩
      have l3 := pickN_lt dw 3 (by decide)
      clear hal hcl hda HI
      obtain ⟨m3, hm3⟩ : ∃ m3, m3 = pickN dw 3 := ⟨_, rfl⟩
      rw [← hm3] at hPa
      clear hm3
      go_upto_region 12 with fail
      go_name_world W0 hW0
      have HD0 : Hid (WI w W0 p n q u lo hi (.slice at1 K.length ct1) L K ∧ Tk n L K) := by rw [← hW0]; exact HD.out
      have d0 : W0.cell? ⟨wr.heap.size, 0, none⟩ = some (.int .i64 dw) := by rw [← hW0]; simp
      have d1 : W0.cell? ⟨wr.heap.size, 1, none⟩ = some (.int .i64 df) := by rw [← hW0]; simp
      have d2 : W0.cell? ⟨wr.heap.size, 2, none⟩ = some (.int .i64 dor) := by rw [← hW0]; simp
      have dz : wr.heap.size < W0.heap.size := by rw [← hW0]; simp
      clear hW0 HD c0 c1 c2
      generalize wr.heap.size = db at *
      obtain ⟨gb, hgb⟩ : ∃ gb : Bool, gb = decide (m3 = 0 ∧ 0 < K.length) := ⟨_, rfl⟩
      have HGB : Hid (gb = decide (m3 = 0 ∧ 0 < K.length)) := hgb
      clear hgb
      go_cut [78] from 56 to 222 (fun s78 W => s78 = .bool gb ∧ W0 = W)
      case first =>
        by_cases h1 : m3 = 0
        · by_cases h2 : 0 < K.length
          · have r1 : ((m3 : Int) == 0) = true := by simp [h1]
            have r3 : (0 : Int) < (K.length : Int) := by omega
            go_wp2_with fail
            refine (hPa _).mono ?_
            rintro e w5 ⟨rfl, hw⟩
            obtain rfl := hw.symm
            clear hw
            go_wp2_with fail
            go_meet
            exact ⟨by rw [HGB.out, decide_eq_true (by omega)], rfl⟩
          · have r1 : ((m3 : Int) == 0) = true := by simp [h1]
            have r3 : ¬ (0 : Int) < (K.length : Int) := by omega
            go_wp2_with fail
            refine (hPa _).mono ?_
            rintro e w5 ⟨rfl, hw⟩
            obtain rfl := hw.symm
            clear hw
            go_wp2_with fail
            go_meet
            exact ⟨by rw [HGB.out, decide_eq_false (by omega)], rfl⟩
        · have r1 : ((m3 : Int) == 0) = false := by simp [h1]
          go_wp2_with fail
          refine (hPa _).mono ?_
          rintro e w5 ⟨rfl, hw⟩
          obtain rfl := hw.symm
          clear hw
          go_wp2_with fail
          go_meet
          exact ⟨by rw [HGB.out, decide_eq_false (by omega)], rfl⟩
      case rest =>
      obtain ⟨rfl, rfl⟩ := hcut
      apply_assumption
      go_cut [10] from 56 to 222 (fun vt W => ∃ L2 K2, K2.length ≤ k + 1 ∧ Hid (WI w W p n q u lo hi vt L2 K2 ∧ Tk n L2 K2))
      case first =>
        by_cases hg : m3 = 0 ∧ 0 < K.length
        · have hgb : gb = true := by rw [HGB.out, decide_eq_true hg]
          subst hgb
          have hPb := fun w => pick_any df K.length w q1 q2 hg.2 (by omega)
          have l4 := pickN_lt df K.length hg.2
          generalize pickN df K.length = kk at *
          have HTP : Hid (Tk n L (K.getD kk (0, 0) :: (K.take kk ++ K.drop (kk + 1)))) := HD0.out.2.perm (perm_at l4)
          have hkl : (kk : Int) < (K.length : Int) := by omega
          obtain ⟨g, rfl, -, hg1, hg2, hkc, hcm, att⟩ := HD0.out.1.row.at l4
          obtain ⟨x0, x1⟩ := rB.at att
          simp only [show rB.n = 2 from rfl, show rB.zero = (0, 0) from rfl] at x0 x1
          have hG := (HD0.out.1.below (Below.refl _ _).drew).give HTP.out
          generalize K.getD kk (0, 0) = b at *
          clear HD0 HTP att hg d0 d2 hPa HGB
          go_wp2_with fail
          refine (hPb _).mono ?_
          rintro e w5 ⟨rfl, hw⟩
          obtain rfl := hw.symm
          clear hw hPb d1
          go_wp2
          go_region_held3 (fun w' => w'.cell? ⟨g, kk * 2, none⟩ = some (.int .i64 b.1) ∧ w'.cell? ⟨g, kk * 2 + 1, none⟩ = some (.int .i64 b.2)) (go_keep)
            (first | (go_at_call 19; refine hG.mono ?_; rintro e w6 ⟨rfl, L6, W6, T6, Y6⟩; have hx6 : ∀ o, w6.cell? ⟨g, o, none⟩ = W0.cell? ⟨g, o, none⟩ := (fun o => World.cell?_of_block (a := ⟨g, o, none⟩) (Y6 g rfl))))
          have HW6 : Hid (WI w w6 p n q u lo hi (.slice (some ⟨g, 0, none⟩) K.length ct1) L6 K) := W6
          have HT6 : Hid (Tk n L6 (K.take kk ++ K.drop (kk + 1))) := T6
          clear hx6 W6 T6 Y6 hG x0 x1
          as_aux_lemma =>
            have hKlc : K.length ≤ ct1 := hkc
            have hHi : hi ≤ w6.heap.size := by have := HW6.out.row.lt g rfl; omega
            obtain ⟨M, hM⟩ : ∃ M : Nat, M = kk + 1 := ⟨_, rfl⟩
            have hwM : IntKind.i64.wrap ((kk : Int) + 1) = (M : Int) := by rw [IntKind.wrap_i64]; omega
            have hM0 : (0 : Int) ≤ (M : Int) := by omega
            have hM1 : (M : Int) ≤ (K.length : Int) := by omega
            have hk0 : (0 : Int) ≤ (kk : Int) := by omega
            have hkcI : (kk : Int) ≤ (ct1 : Int) := by omega
            have hKcI : (K.length : Int) ≤ (ct1 : Int) := by omega
            have hMcI : (M : Int) ≤ (ct1 : Int) := by omega
            have hk1 : (kk : Int) ≤ (K.length : Int) := by omega
            have hkc2 : kk ≤ ct1 := by omega
            have hMc2 : M ≤ ct1 := by omega
            obtain ⟨o2, ho2, hso⟩ : ∃ o2 : Nat, (if ct1 = M then some (⟨g, 0, none⟩ : Addr) else some ⟨g, M * 2, none⟩) = some ⟨g, o2, none⟩ ∧ (ct1 = M ∨ o2 = M * 2) := by
              by_cases h : ct1 = M
              · exact ⟨0, by simp [h], Or.inl h⟩
              · exact ⟨M * 2, by simp [h], Or.inr rfl⟩
            have hS := HW6.out.row.seen.2
            have hS1 : Seen rB w6 (some ⟨g, 0, none⟩) ct1 (K.take kk) := by simpa using hS.part 0 kk 0 ct1 (by omega) (Or.inr (by simp))
            have hS2 : Seen rB w6 (some ⟨g, o2, none⟩) (ct1 - M) (K.drop M) := by
              have h := hS.part M (K.length - M) o2 (ct1 - M) (by omega) (by rcases hso with h | h; (· exact Or.inl (by omega)); (· right; simp [h, rB]))
              rwa [List.take_of_length_le (by simp)] at h
            have hla : kk = (K.take kk).length := by simp; omega
            have hlb : K.length - M = (K.drop M).length := by simp
            have hlen0 : kk + (K.length - M) ≤ 80 ∧ kk + (K.length - M) ≤ k + 1 := by omega
            rw [← hM] at HT6
            clear hS hso hM
            generalize K.take kk = la at *
            generalize K.drop M = lb at *
            have HD4 : Hid (Below w6.heap.size w6 (w6.drew.alloc (.cells #[] 48))) := (Below.refl w6.heap.size w6).drew.alloc (Nat.le_refl _) _
            have HR0 : Hid (Row rB w6.heap.size (w6.drew.alloc (.cells #[] 48)) (.slice (some ⟨w6.heap.size, 0, none⟩) 0 0) []) := Row.of_cells (R := rB) (l' := []) (Nat.le_refl _) (heap_alloc_new w6.drew _) (Nat.le_refl _) (by decide) rfl (fun k hk => absurd hk (by simp))
            have HS1 : Hid (Seen rB w6 (some ⟨g, 0, none⟩) ct1 la) := hS1
            have HS2 : Hid (Seen rB w6 (some ⟨g, o2, none⟩) (ct1 - M) lb) := hS2
            have hlen : la.length + lb.length ≤ 80 ∧ la.length + lb.length ≤ k + 1 := by rw [← hla, ← hlb]; omega
            have HLA : Hid (kk = la.length) := hla
            have HLB : Hid (K.length - M = lb.length) := hlb
            clear hS1 hS2 hla hlb hlen0
            go_wp2_with fail
            go_region_held3 (fun _ => True) (trivial)
              (first
              | (refine step_app' rB.kin rfl _ _ rfl w6.heap.size (.slice (some ⟨w6.heap.size, 0, none⟩) 0 0) [] la (by simp [Act.eval]) HR0.out (some ⟨g, 0, none⟩) kk ct1 (by simp [Act.eval]) HLA.out (HS1.out.below HD4.out) (by have := hlen.1; simp; unfold maxLen; omega) (by have := hlen.1; simp only [List.length_nil]; show _ * 16 ≤ _; omega) HD4.out.size ?_; intro u7 w7 hr7 hg7 hw7 hn7; obtain ⟨a7, c7, rfl⟩ := hr7.form; have hb7 : Below w6.heap.size w6 w7 := HD4.out.grown hg7 HD4.out.size (fun k hk => (HR0.out.lt k hk).1))
              | (refine step_app' rB.kin rfl _ _ rfl w6.heap.size (.slice a7 ([] ++ la).length c7) ([] ++ la) lb (by simp [Act.eval]) hr7 (some ⟨g, o2, none⟩) (K.length - M) (ct1 - M) (by simp [Act.eval]) HLB.out (HS2.out.below hb7) (by have := hlen.1; simp; unfold maxLen; omega) (by have := hlen.1; simp only [List.nil_append]; show _ * 16 ≤ _; omega) hb7.size ?_; intro u8 w8 hr8 hg8 hw8 hn8; have hb8 : Below w6.heap.size w6 w8 := hb7.grown hg8 hb7.size (fun k hk => (hr7.lt k hk).1)))
            have HW8 : Hid (WI w w8 p n q u lo hi u8 L6 (la ++ lb)) := HW6.out.fresh hb8 (hr8.lower hHi) (fun g hg => (hr8.lt g hg).1)
            have HT8 : Hid (Tk n L6 (la ++ lb)) := HT6.out
            clear hr8 hg8 hw8 hn8 hb8 hr7 hg7 hw7 hn7 hb7 HS1 HS2 HR0 HD4 HW6 HT6 ho2
            go_wp2_with fail
            go_meet
            exact ⟨L6, la ++ lb, by rw [List.length_append]; exact hlen.2, HW8.out, HT8.out⟩
        · have hgb : gb = false := by rw [HGB.out, decide_eq_false hg]
          subst hgb
          have hPc := fun w => pick_any dor 6 w r1 r2 (by decide) (by decide)
          have l5 := pickN_lt dor 6 (by decide)
          generalize pickN dor 6 = o at *
          have hK := HD0.out.1.take HT.out o (by omega)
          have HTN : Hid (Tk n L K) := HD0.out.2
          clear hg
          cases hl : lst o L L.length with
          | none =>
            as_aux_lemma =>
              rw [hl] at hK
              simp only at hK
              clear hl HD0
              go_wp2_with fail
              refine (hPc _).mono ?_
              rintro e w5 ⟨rfl, hw⟩
              obtain rfl := hw.symm
              clear hw
              go_wp2_with fail
              refine hK.mono ?_
              rintro e w6 ⟨rfl, W6⟩
              have HW6 : Hid (WI w w6 p n q u lo hi (.slice at1 K.length ct1) L K) := W6
              clear hK W6
              go_wp2_with fail
              go_meet
              exact ⟨L, K, by omega, HW6.out, HTN.out⟩
          | some m =>
            as_aux_lemma =>
              rw [hl] at hK
              simp only at hK
              have HTK : Hid (∀ L', Okl n L' → (∀ x, cov L' x ↔ cov L x ∧ ¬ inB ((L.getD m (0, 0)).1, o) x) → Tk n L' (K ++ [((L.getD m (0, 0)).1, o)])) := fun L' h2 h3 => HTN.out.take (by omega) hl h2 h3
              obtain ⟨fst, hfst⟩ : ∃ fst, (L.getD m (0, 0)).1 = fst := ⟨_, rfl⟩
              rw [hfst] at hK HTK
              clear hl HD0 HTN hfst
              go_wp2_with fail
              refine (hPc _).mono ?_
              rintro e w5 ⟨rfl, hw⟩
              obtain rfl := hw.symm
              clear hw
              go_wp2_with fail
              refine hK.mono ?_
              rintro e w6 ⟨rfl, L6, W6, ok6, cv6⟩
              have HT6 : Hid (Tk n L6 (K ++ [(fst, o)])) := HTK.out L6 ok6 cv6
              have HW6 : Hid (WI w w6 p n q u lo hi (.slice at1 K.length ct1) L6 K) := W6
              have HRA : Hid (Row rB hi (w6.alloc (.cells #[.int .i64 fst, .int .i64 o] 48)) (.slice at1 K.length ct1) K) := W6.row.below ((Below.refl _ _).alloc (Nat.le_refl _) _)
              have hhi6 : hi ≤ w6.heap.size + 1 := by have := W6.hile; omega
              clear hK W6 ok6 cv6 HTK
              go_wp2_with (at_builtin; refine list_app' rB.kin rfl _ _ rfl hi _ K [(fst, o)] rfl HRA.out (some ⟨w6.heap.size, 0, none⟩) 1 1 rfl rfl ?a2 ?a3 ?a4 ?a5 ?_)
              case a2 => exact Seen.one (by simp) (At.new (R := rB) _ (fst, o) _ rfl) 1
              case a3 => simp only [List.length_cons, List.length_nil]; unfold maxLen; omega
              case a4 => simp only [List.length_cons, List.length_nil, show rB.bytes = 16 from rfl]; omega
              case a5 => simp; omega
              intro v' w7 hrow hgrow hwh
              have HW7 : Hid (WI w w7 p n q u lo hi v' L6 (K ++ [(fst, o)])) := HW6.out.app ((Below.refl _ _).alloc (Nat.le_refl _) _) hgrow hrow (by simpa using hwh)
              clear hrow hgrow hwh HRA
              go_wp2_with fail
              go_meet
              exact ⟨L6, K ++ [(fst, o)], by simp; omega, HW7.out, HT6.out⟩
      case rest =>
        obtain ⟨L2, K2, hKl2, HW⟩ := hcut
        obtain ⟨at2, ct2, rfl⟩ := HW.out.1.row.form
        clear HD0 d0 d1 d2 dz hPa
        as_aux_lemma =>
          have hF := HW.out.1.free
          go_wp2_with fail
          refine hF.mono ?_
          rintro e w20 ⟨vl, rfl, R20, hb20⟩
          have hC := (HW.out.1.below hb20).count
          obtain ⟨al, cl, rfl⟩ := R20.form
          clear hF
          go_wp2_with fail
          refine hC.mono ?_
          rintro e w21 ⟨rfl, hb21⟩
          have HW2 : Hid (WI w w21 p n q u lo hi (.slice at2 K2.length ct2) L2 K2 ∧ Tk n L2 K2 ∧ Row rB _ w21 (.slice al L2.length cl) L2) := ⟨(HW.out.1.below hb20).below hb21, HW.out.2, R20.below hb21⟩
          have hcnt := HW.out.2.count
          have hl2 := HW.out.2.ok.len
          obtain ⟨sz, hsz⟩ : ∃ sz, sz = size L2 := ⟨_, rfl⟩
          rw [← hsz] at hcnt ⊢
          have HSZ : Hid (sz = size L2) := hsz
          have HCNT : Hid (sz + size K2 = n) := hcnt
          clear hC HW hb20 hb21 R20 hsz
          go_wp2_with fail
          go_loopw [19, 20] (fun av jv W => ∃ j s : Nat, j ≤ K2.length ∧ s ≤ n ∧ jv = .int .i64 j ∧ av = .int .i64 s ∧ Hid (s = sz + size (K2.take j)) ∧ Hid (Below w21.heap.size w21 W)) (fun _ jv _ => K2.length - (intOf jv).toNat)
          case atStart => exact ⟨0, sz, Nat.zero_le _, by omega, rfl, rfl, (by simp [size] : sz = sz + size (K2.take 0)), Below.refl _ _⟩
          case round =>
            obtain ⟨j, s, hj, hs, rfl, rfl, HJ, HB⟩ := hrel
            by_cases hjl : j < K2.length
            · have hjz : (j : Int) < (K2.length : Int) := by omega
              obtain ⟨gt, rfl, _, _, hgt, _, _, att⟩ := (HW2.out.1.row.below HB.out).at hjl
              obtain ⟨x0, x1⟩ := rB.at att
              simp only [show rB.n = 2 from rfl, show rB.zero = (0, 0) from rfl] at x0 x1
              have hmem : K2.getD j (0, 0) ∈ K2 := by rw [List.getD_eq_getElem?_getD, List.getElem?_eq_getElem hjl]; exact List.getElem_mem hjl
              have h5 := (HW2.out.2.1.al _ hmem).1.1
              have hst := size_take K2 j hjl
              have hle : size (K2.take (j + 1)) ≤ size K2 := by
                have : size K2 = size (K2.take (j + 1)) + size (K2.drop (j + 1)) := by
                  unfold size
                  rw [← List.sum_append, ← List.map_append, List.take_append_drop]
                omega
              generalize K2.getD j (0, 0) = bj at *
              have hPw := fun w => power_any bj.2 w (by omega)
              have HP : Hid (pw bj.2 = ((2 ^ bj.2 : Nat) : Int)) := rfl
              have hpp := pw_pos bj.2
              have hps : (s : Int) + pw bj.2 ≤ 200 := by have := HP.out; have := HJ.out; have := HCNT.out; omega
              have HS2 : Hid (s + 2 ^ bj.2 = sz + size (K2.take (j + 1)) ∧ s + 2 ^ bj.2 ≤ n ∧ ((s + 2 ^ bj.2 : Nat) : Int) = (s : Int) + pw bj.2) := by have := HP.out; have := HJ.out; have := HCNT.out; exact ⟨by omega, by omega, by omega⟩
              clear att hmem hst hle
              go_wp2_with (go_at_call 22; refine (hPw _).mono ?_; rintro e w5 ⟨rfl, hw⟩; obtain rfl := hw.symm; clear hw)
              go_roundw
              case rel => exact ⟨j + 1, s + 2 ^ bj.2, by omega, HS2.out.2.1, by go_num, by rw [HS2.out.2.2], HS2.out.1, HB⟩
              case measure => simp only [intOf]; omega
            · obtain rfl : j = K2.length := by omega
              have hsn : s = n := by have := HJ.out; rw [List.take_length] at this; have := HCNT.out; omega
              have hsn' : ((s : Int) == (n : Int)) = true := by simp [hsn]
              have hsn2 : (s : Int) = (n : Int) := by omega
              clear hsn HJ
              go_wp2_with fail
              clear hsn' hsn2
              go_loopw [21] (fun kv W => ∃ k0 : Nat, k0 ≤ 600 ∧ kv = .int .i64 ((k0 : Int) + 1) ∧ Hid (Below w21.heap.size w21 W)) (fun kv _ => 700 - (intOf kv).toNat)
              case atStart => exact ⟨0, by omega, rfl, HB⟩
              case round =>
                obtain ⟨k0, hk6, rfl, HB3⟩ := hrel
                by_cases hkl : k0 + 1 < L2.length
                · have hkz : (k0 : Int) + 1 < (L2.length : Int) := by omega
                  have hkz1 : (k0 : Int) < (L2.length : Int) := by omega
                  obtain ⟨gl, rfl, _, _, hgl, _, _, at0⟩ := (HW2.out.2.2.below HB3.out).at (show k0 < L2.length by omega)
                  obtain ⟨gl', e', _, _, _, _, _, at1⟩ := (HW2.out.2.2.below HB3.out).at hkl
                  cases e'
                  obtain ⟨x0, x1⟩ := rB.at at0
                  obtain ⟨y0, y1⟩ := rB.at at1
                  simp only [show rB.n = 2 from rfl, show rB.zero = (0, 0) from rfl] at x0 x1 y0 y1
                  obtain ⟨nb1, nb2⟩ := HW2.out.2.1.ok.good.nb hkl
                  have bb := HW2.out.2.1.ok.blk (HW2.out.2.1.ok.get (show k0 < L2.length by omega))
                  have bc := HW2.out.2.1.ok.blk (HW2.out.2.1.ok.get hkl)
                  generalize L2.getD k0 (0, 0) = a at *
                  generalize L2.getD (k0 + 1) (0, 0) = b at *
                  have hPw := fun w => power_any a.2 w (by omega)
                  have HP : Hid (pw a.2 = ((2 ^ a.2 : Nat) : Int)) := rfl
                  have hpp := pw_pos a.2
                  have hp2 : 2 ^ a.2 ≤ 32 := Nat.pow_le_pow_right (show 0 < 2 by decide) bb.2.1
                  have hps : pw a.2 ≤ 32 := by have := HP.out; omega
                  have hbe : a.1 + 2 ^ a.2 ≤ b.1 := nb1
                  have hq1 : decide ((b.1 : Int) < (a.1 : Int) + pw a.2) = false := decide_eq_false (by have := HP.out; omega)
                  have hq2 : ¬ ((b.1 : Int) < (a.1 : Int) + pw a.2) := by have := HP.out; omega
                  have hw1 : IntKind.i64.wrap ((a.1 : Int) + pw a.2) = (a.1 : Int) + pw a.2 := by rw [IntKind.wrap_i64]; have := HP.out; omega
                  have hw2 : IntKind.i64.wrap (2 * pw a.2) = 2 * pw a.2 := by rw [IntKind.wrap_i64]; omega
                  have hw3 : ¬ (2 * pw a.2 = 0) := by omega
                  have hw4 : IntKind.i64.wrap ((k0 : Int) + 1 - 1) = (k0 : Int) := by rw [IntKind.wrap_i64]; omega
                  have hw5 : ((k0 : Int) + 1).toNat = k0 + 1 := by omega
                  have hw6 : (0 : Int) ≤ (k0 : Int) + 1 := by omega
                  have hmod : ((a.1 : Int) % (2 * pw a.2) = 0) ↔ a.1 % 2 ^ (a.2 + 1) = 0 := by
                    rw [show 2 * pw a.2 = pw (a.2 + 1) by rw [pw_succ]; omega]
                    exact pw_mod _ _
                  have hnn : ¬ (a.2 = b.2 ∧ b.2 < 5 ∧ (a.1 : Int) % (2 * pw a.2) = 0 ∧ (b.1 : Int) = (a.1 : Int) + pw a.2) := by
                    rintro ⟨t1, t2, t3, t4⟩
                    exact nb2 ⟨t1, t2, hmod.1 t3, by have := HP.out; omega⟩
                  have hb1 : (a.1 : Int) ≤ 512 := by omega
                  clear at0 at1 nb1 nb2 hp2 hbe bb bc hmod
                  generalize pw a.2 = pa at *
                  obtain ⟨z4, hz4⟩ : ∃ z4, (a.1 : Int) % (2 * pa) = z4 := ⟨_, rfl⟩
                  rw [hz4] at hnn
                  go_upto_region 34 with (go_at_call 22; refine (hPw _).mono ?_; rintro e w5 ⟨rfl, hw⟩; obtain rfl := hw.symm; clear hw)
                  go_cut [222] from 146 to 222 (fun s222 W => s222 = .bool false ∧ Hid (Below w21.heap.size w21 W))
                  case first =>
                    clear HW2 HSZ HCNT HB hPw HP
                    by_cases t1 : a.2 = b.2
                    · have r1 : ((a.2 : Int) == (b.2 : Int)) = true := by simp [t1]
                      by_cases t2 : b.2 < 5
                      · have r2 : decide ((b.2 : Int) < 5) = true := decide_eq_true (by omega)
                        by_cases t3 : z4 = 0
                        · have r3 : (z4 == 0) = true := by simp [t3]
                          have t4 : ¬ ((b.1 : Int) = (a.1 : Int) + pa) := fun e => hnn ⟨t1, t2, t3, e⟩
                          have r4 : ((b.1 : Int) == (a.1 : Int) + pa) = false := by simp [t4]
                          clear hnn t1 t2 t3 t4
                          as_aux_lemma =>
                            go_wp2_with fail
                            go_quiet (fail)
                            go_wp2
                            go_meet
                            exact ⟨rfl, below_drewN HB3.out _⟩
                        · have r3 : (z4 == 0) = false := by simp [t3]
                          clear hnn t1 t2 t3
                          as_aux_lemma =>
                            go_wp2_with fail
                            go_quiet (fail)
                            go_wp2
                            go_meet
                            exact ⟨rfl, below_drewN HB3.out _⟩
                      · have r2 : decide ((b.2 : Int) < 5) = false := decide_eq_false (by omega)
                        clear hnn t1 t2
                        as_aux_lemma =>
                          go_wp2_with fail
                          go_quiet (fail)
                          go_wp2
                          go_meet
                          exact ⟨rfl, below_drewN HB3.out _⟩
                    · have r1 : ((a.2 : Int) == (b.2 : Int)) = false := by simp; omega
                      clear hnn t1
                      as_aux_lemma =>
                        go_wp2_with fail
                        go_quiet (fail)
                        go_wp2
                        go_meet
                        exact ⟨rfl, below_drewN HB3.out _⟩
                  case rest =>
                    obtain ⟨rfl, HB4⟩ := hcut
                    clear x0 x1 y0 y1 hq1 hq2 hw1 hw2 hw3 hw4 hw5 hnn hz4
                    go_wp2
                    go_roundw
                    case rel => exact ⟨k0 + 1, by omega, by go_num, HB4⟩
                    case measure => simp only [intOf]; omega
                · have hkz : ¬ ((k0 : Int) + 1 < (L2.length : Int)) := by omega
                  have HWN : Hid (WI w wr p n q u lo hi (.slice at2 K2.length ct2) L2 K2 ∧ Tk n L2 K2) := ⟨HW2.out.1.below HB3.out, HW2.out.2.1⟩
                  clear HW2 HB HB3
                  go_wp2
                  go_roundw
                  case rel => exact ⟨k + 1, L2, K2, by omega, by omega, by go_num, by omega, HWN⟩
                  case measure => simp only [intOf]; omega
    · have hx : (¬ (k : Int) < (len : Int)) ∨ ((k : Int) < (len : Int) ∧ ¬ (k : Int) < 80) := by omega
      have HK0 : Hid (∃ L', WI w wr p n q u lo hi (.slice at1 K.length ct1) L' K ∧ Tk n L' (K.drop 0)) := ⟨L, HI.out.1, HI.out.2⟩
      have hK80 : K.length ≤ 80 := by omega
      clear hlt hk hk8 HL HI
      rcases hx with h1 | ⟨h1, h2⟩
      all_goals as_aux_lemma =>
        go_wp2_with fail
        go_loopw [23] (fun jv W => ∃ (j : Nat) (L' : List Bk), j ≤ K.length ∧ jv = .int .i64 j ∧ Hid (WI w W p n q u lo hi (.slice at1 K.length ct1) L' K ∧ Tk n L' (K.drop j))) (fun jv _ => K.length - (intOf jv).toNat)
        case atStart =>
          obtain ⟨L', h⟩ := HK0.out
          exact ⟨0, L', Nat.zero_le _, rfl, h⟩
        case round =>
          obtain ⟨j, L1, hj, rfl, HJ⟩ := hrel
          clear HK0
          by_cases hjl : j < K.length
          · have hjz : (j : Int) < (K.length : Int) := by omega
            obtain ⟨g, rfl, -, hg1, hg2, hkc, hcm, att⟩ := HJ.out.1.row.at hjl
            obtain ⟨x0, x1⟩ := rB.at att
            simp only [show rB.n = 2 from rfl, show rB.zero = (0, 0) from rfl] at x0 x1
            have hdr : K.drop j = K.getD j (0, 0) :: K.drop (j + 1) := by
              rw [List.getD_eq_getElem?_getD, List.getElem?_eq_getElem hjl]
              exact (List.getElem_cons_drop hjl).symm
            have HTP : Hid (Tk n L1 (K.getD j (0, 0) :: K.drop (j + 1))) := by
              have := HJ.out.2
              rw [hdr] at this
              exact this
            have hG := (HJ.out.1.below (Below.refl _ _).drew).give HTP.out
            generalize K.getD j (0, 0) = b at *
            clear HJ HTP att hdr
            go_wp2_with fail
            go_region_held3 (fun w' => w'.cell? ⟨g, j * 2, none⟩ = some (.int .i64 b.1) ∧ w'.cell? ⟨g, j * 2 + 1, none⟩ = some (.int .i64 b.2)) (go_keep)
              (first | (go_at_call 19; refine hG.mono ?_; rintro e w6 ⟨rfl, L6, W6, T6, Y6⟩; have hx6 : ∀ o, w6.cell? ⟨g, o, none⟩ = wr.cell? ⟨g, o, none⟩ := (fun o => World.cell?_of_block (a := ⟨g, o, none⟩) (Y6 g rfl))))
            have HW6 : Hid (WI w w6 p n q u lo hi (.slice (some ⟨g, 0, none⟩) K.length ct1) L6 K ∧ Tk n L6 (K.drop (j + 1))) := ⟨W6, T6⟩
            clear hx6 W6 T6 Y6 hG x0 x1
            go_wp2_with fail
            go_roundw
            case rel => exact ⟨j + 1, L6, by omega, by go_num, HW6⟩
            case measure => simp only [intOf]; omega
          · obtain rfl : j = K.length := by omega
            have hLL := HJ.out.2.ok.len
            have hd : L1 = blkL 0 n := by
              have := HJ.out.2
              rw [List.drop_length] at this
              exact this.done
            subst hd
            have hF := HJ.out.1.free
            go_wp2_with fail
            refine hF.mono ?_
            rintro e w8 ⟨va, rfl, R8, hb8⟩
            obtain ⟨aa, ca, rfl⟩ := R8.form
            have hF2 := (HJ.out.1.below hb8).free2
            clear hF
            go_wp2_with fail
            refine hF2.mono ?_
            rintro e w9 ⟨vb, rfl, R9, hb9⟩
            obtain ⟨ab, cb, rfl⟩ := R9.form
            have HFR : Hid (Below w.heap.size w w9) := below_call' (below_call' HJ.out.1.frame hb8) hb9
            have HR8 : Hid (Row rB _ w9 (.slice aa (blkL 0 n).length ca) (blkL 0 n) ∧ Row rB _ w9 (.slice ab (blkL 0 n).length cb) (blkL 0 n)) := ⟨R8.below hb9, R9⟩
            clear hF2 R8 R9 hb8 hb9 HJ
            generalize blkL 0 n = LL at *
            go_wp2_with fail
            go_loopw [27] (fun iv W => ∃ j : Nat, j ≤ LL.length ∧ iv = .int .i64 j ∧ Hid (Below w9.heap.size w9 W)) (fun iv _ => LL.length - (intOf iv).toNat)
            case atStart => exact ⟨0, Nat.zero_le _, rfl, Below.refl _ _⟩
            case round =>
              obtain ⟨j, hj, rfl, HJ⟩ := hrel
              by_cases hjl : j < LL.length
              · have hjz : (j : Int) < (LL.length : Int) := by omega
                obtain ⟨ga, rfl, _, _, hga, _, _, ata⟩ := (HR8.out.1.below HJ.out).at hjl
                obtain ⟨gb, rfl, _, _, hgb, _, _, atb⟩ := (HR8.out.2.below HJ.out).at hjl
                obtain ⟨x0, x1⟩ := rB.at ata
                obtain ⟨y0, y1⟩ := rB.at atb
                simp only [show rB.n = 2 from rfl, show rB.zero = (0, 0) from rfl] at x0 x1 y0 y1
                have hne := fun w => neq_run (LL.getD j (0, 0)) (LL.getD j (0, 0)) w
                rw [show (!decide (LL.getD j (0, 0) = LL.getD j (0, 0))) = false by simp] at hne
                unfold bval at hne
                generalize LL.getD j (0, 0) = bj at *
                clear ata atb
                go_wp2
                go_quiet (fail)
                go_wp2
                go_roundw
                case rel => exact ⟨j + 1, by omega, by go_num, below_drewN HJ.out _⟩
                case measure => simp only [intOf]; omega
              · obtain rfl : j = LL.length := by omega
                go_wp2
                go_ret
                exact ⟨rfl, below_call' HFR.out HJ.out⟩
end Go.Proofs.YtbpihdeinkopfaaDoor
