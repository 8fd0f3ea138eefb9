/- TlbPlays, walked. -/
import Derived.Test.YtpkagigjcnjlpaaEMod3
import Derived.Test.YtpkagigjcnjlpaaEDeed
import Derived.Test.YtpkagigjcnjlpaaEPick
import Derived.Test.YtpkagigjcnjlpaaZReg
import Derived.Deep.CutRange
import Derived.Lib.ItoaWalk
namespace Go.Proofs.Ytpkagigjcnjlpaa
open Go.RowKit

def dcells (d : EDd) : Array Value := #[.int .i64 d.what, .int .i64 d.e.asid, .int .i64 d.e.first, .int .i64 d.e.order, .int .i64 d.e.base, .bool d.e.writ, .bool d.e.exe, .int .i64 d.n, .int .i64 d.page]
/-- How the two buffers stand, and the deed. -/
structure T2 (w W : World) (p q d : Nat) (cs : Array Value) (v u : Value) (l l' : List Ent) (k k' : Bool) : Prop where
  buf : Buf w.heap.size W p v l k
  mod : Mod w.heap.size W q u l' k'
  apart : Apart v u
  below : Below w.heap.size w W
  deed : Laid W d 43 cs
section
variable {w W W' : World} {p q d : Nat} {cs : Array Value} {v u v' u' : Value} {l l' l2 : List Ent} {k k' k2 : Bool}
theorem T2.next (h : T2 w W p q d cs v u l l' k k') (hb : Below W.heap.size W W') : T2 w W' p q d cs v u l l' k k' :=
  ⟨h.buf.below hb, h.mod.below hb, h.apart, below_call' h.below hb, h.deed.below hb⟩
theorem T2.bstep (h : T2 w W p q d cs v u l l' k k') (b' : Buf w.heap.size W' p v' l2 k2) (s : Step W W' p v v') : T2 w W' p q d cs v' u l2 l' k2 k' := by
  obtain ⟨m', a'⟩ := h.mod.beside h.buf s h.apart
  exact ⟨b', m', a', h.below.trans (s.below h.buf h.below.size), h.deed.beside h.buf s (by decide) (by decide)⟩
theorem T2.mstep (h : T2 w W p q d cs v u l l' k k') (m' : Mod w.heap.size W' q u' l2 k2) (s : MStep W W' q u u') : T2 w W' p q d cs v u' l l2 k k2 := by
  obtain ⟨b', a'⟩ := h.buf.mbeside h.mod s h.apart
  exact ⟨b', m', a', h.below.trans (s.below h.below.size h.mod.base), h.deed.mbeside h.mod.ptr s (by decide)⟩
end
def Two (w W : World) (p q : Nat) : Prop := ∃ v u l k, Buf w.heap.size W p v l k ∧ Mod w.heap.size W q u l k ∧ Apart v u ∧ Below w.heap.size w W
def Both (w W : World) (p q d : Nat) (cs : Array Value) : Prop := ∃ v u l k, T2 w W p q d cs v u l l k k
theorem Two.deed {w W : World} {p q : Nat} (h : Two w W p q) (cs : Array Value) : Both w (W.alloc (.cells cs 43)) p q W.heap.size cs := by
  obtain ⟨v, u, l, k, b, m, a, L⟩ := h
  have hn := (Below.refl W.heap.size W).alloc (Nat.le_refl _) (.cells cs 43)
  exact ⟨v, u, l, k, b.below hn, m.below hn, a, below_call' L hn, Laid.new _ _ _⟩
theorem deed_cells {W : World} {b : Nat} {d : EDd} (h : Laid W b 43 (dcells d)) : W.cell? ⟨b, 0, none⟩ = some (.int .i64 d.what) ∧ (W.cell? ⟨b, 1, none⟩ = some (.int .i64 d.e.asid) ∧ W.cell? ⟨b, 2, none⟩ = some (.int .i64 d.e.first) ∧ W.cell? ⟨b, 3, none⟩ = some (.int .i64 d.e.order) ∧ W.cell? ⟨b, 4, none⟩ = some (.int .i64 d.e.base) ∧ W.cell? ⟨b, 5, none⟩ = some (.bool d.e.writ) ∧ W.cell? ⟨b, 6, none⟩ = some (.bool d.e.exe)) ∧ W.cell? ⟨b, 7, none⟩ = some (.int .i64 d.n) ∧ W.cell? ⟨b, 8, none⟩ = some (.int .i64 d.page) :=
  ⟨h.cell 0, ⟨h.cell 1, h.cell 2, h.cell 3, h.cell 4, h.cell 5, h.cell 6⟩, h.cell 7, h.cell 8⟩
theorem SRow.head {w : World} {q g c : Nat} {l : List Ent} (h : SRow w q (some ⟨g, 0, none⟩) l.length c l) (n c' : Nat) (hn : n ≤ l.length) : SRow w q (some ⟨g, 0, none⟩) n c' (l.take n) := by
  obtain ⟨_, _, h3⟩ := h
  obtain ⟨g', off, e, hg, hne, hc⟩ := h3 _ rfl
  cases e
  refine ⟨by simp; omega, fun h => (by cases h), fun ad e => ?_⟩
  cases e
  refine ⟨g, 0, rfl, hg, hne, fun j hj t ht => ?_⟩
  rw [hc j (by omega) t ht, List.getD_eq_getElem?_getD, List.getD_eq_getElem?_getD, List.getElem?_take_of_lt hj]
theorem SRow.from {w : World} {q g c : Nat} {l : List Ent} (h : SRow w q (some ⟨g, 0, none⟩) l.length c l) (m o c' : Nat) (hm : m ≤ l.length) (ho : l.length = m ∨ o = m * 6) : SRow w q (some ⟨g, o, none⟩) (l.length - m) c' (l.drop m) := by
  obtain ⟨_, _, h3⟩ := h
  obtain ⟨g', off, e, hg, hne, hc⟩ := h3 _ rfl
  cases e
  refine ⟨by simp, fun h => (by cases h), fun ad e => ?_⟩
  cases e
  refine ⟨g, o, rfl, hg, hne, fun j hj t ht => ?_⟩
  rcases ho with ho | rfl
  · omega
  · rw [show m * 6 + j * 6 + t = 0 + (m + j) * 6 + t by omega, hc (m + j) (by omega) t ht, List.getD_eq_getElem?_getD, List.getD_eq_getElem?_getD, List.getElem?_drop]
theorem page_neg {l : List Ent} {asid page : Int} (h : ∀ x ∈ l, mayB x = true) (hp : page < 0) : stay (pgB asid page) l = l := by
  apply stay_none
  intro x hx
  have hf := (may_parts (h x hx)).2.1
  show isB x asid page = false
  rw [isB_no]
  omega
theorem lst_dd {w W : World} {ao : Option Addr} {len : Nat} {D : Nat → EDd} (h : Lst EDd.cells EDd.ok 9 w ao len D) (hb : Below w.heap.size w W) {i : Nat} (hi : i < len) : ∃ b off, ao = some ⟨b, off, none⟩ ∧ (D i).ok ∧ W.cell? ⟨b, off + i * 9, none⟩ = some (.int .i64 (D i).what) ∧ W.cell? ⟨b, off + i * 9 + 1, none⟩ = some (.int .i64 (D i).e.asid) ∧ W.cell? ⟨b, off + i * 9 + 2, none⟩ = some (.int .i64 (D i).e.first) ∧ W.cell? ⟨b, off + i * 9 + 3, none⟩ = some (.int .i64 (D i).e.order) ∧ W.cell? ⟨b, off + i * 9 + 4, none⟩ = some (.int .i64 (D i).e.base) ∧ W.cell? ⟨b, off + i * 9 + 5, none⟩ = some (.bool (D i).e.writ) ∧ W.cell? ⟨b, off + i * 9 + 6, none⟩ = some (.bool (D i).e.exe) ∧ W.cell? ⟨b, off + i * 9 + 7, none⟩ = some (.int .i64 (D i).n) ∧ W.cell? ⟨b, off + i * 9 + 8, none⟩ = some (.int .i64 (D i).page) := by
  obtain ⟨b, off, e, hlt, hall⟩ := (h.below hb).at hi
  obtain ⟨hok, hc⟩ := hall i hi
  exact ⟨b, off, e, hok, hc 0 (by omega), hc 1 (by omega), hc 2 (by omega), hc 3 (by omega), hc 4 (by omega), hc 5 (by omega), hc 6 (by omega), hc 7 (by omega), hc 8 (by omega)⟩

set_option maxRecDepth 100000 in
set_option maxHeartbeats 4000000 in
theorem walk_tlbPlays (ao : Option Addr) (len cap : Nat) (D : Nat → EDd) (w : World) (hm : len ≤ maxLen) (hL : Lst EDd.cells EDd.ok 9 w ao len D) :
    Calls Try.prog 5 #[.slice ao len cap] w fun e w' => e = .returned (.bool true) ∧ Below w.heap.size w w' := by
  have hm' : len ≤ 9223372036854775807 := by unfold maxLen at hm; omega
  have HLst : Hid (Lst EDd.cells EDd.ok 9 w ao len D) := hL
  clear hL hm
  go_enter Try.func5, Try.ntmps5
  go_wp2_with fail
  refine (up_any _).mono ?_
  rintro e w1 ⟨rfl, L1⟩
  go_wp2_with fail
  refine (new_any _).mono ?_
  rintro e w2 ⟨rfl, b2, hb⟩
  have L2 := below_call' L1 hb
  have H2 : Hid (Buf w.heap.size w2 w1.heap.size (.slice none 0 0) [] false ∧ Below w.heap.size w w2) := ⟨b2.lower L1.size, L2⟩
  clear b2 hb L2 L1
  generalize w1.heap.size = p at *
  have HT : Hid (Two w (w2.alloc (.cells #[.slice none 0 0, .bool false] 41)) p w2.heap.size) := by
    obtain ⟨b, L⟩ := H2.out
    have hn := (Below.refl w2.heap.size w2).alloc (Nat.le_refl _) (.cells #[.slice none 0 0, .bool false] 41)
    exact ⟨_, .slice none 0 0, [], false, b.below hn, ⟨L.size, Laid.new _ _ _, World.ownsRow_nil _ _ _ _⟩, fun g hg => by simp [Value.ownBlock] at hg, below_call' L hn⟩
  clear H2
  go_wp2_with fail
  generalize w2.heap.size = q at *
  go_loopg [6] 120 (fun gk i W => ∃ j : Nat, gk = 120 - j ∧ j ≤ len ∧ j ≤ 120 ∧ i = .int .i64 j ∧ Hid (Two w W p q))
  case atStart => exact ⟨0, rfl, Nat.zero_le _, by omega, rfl, HT⟩
  case round =>
    obtain ⟨j, hgk, hj, hj8, rfl, HB⟩ := hrel
    clear HT
    have HGK : Hid (gk = 120 - j) := hgk
    clear hgk
    by_cases hlt : j < len ∧ j < 120
    · obtain ⟨h1, h2⟩ := hlt
      have h1z : (j : Int) < (len : Int) := by omega
      have h2z : (j : Int) < 120 := by omega
      have L : Below w.heap.size w wr := by
        obtain ⟨_, _, _, _, _, _, _, L⟩ := HB.out
        exact L
      obtain ⟨g, off, rfl, hok, c0, c1, c2, c3, c4, c5, c6, c7, c8⟩ := lst_dd HLst.out L h1
      generalize D j = d at *
      have HD : Hid (Both w (wr.alloc (.cells (dcells d) 43)) p q wr.heap.size (dcells d)) := HB.out.deed _
      clear HB L
      obtain ⟨hwh, hoe, hn, hpg⟩ := hok
      go_upto_region 10 with fail
      go_name_world W0 hW0
      have HD0 : Hid (Both w W0 p q wr.heap.size (dcells d)) := by
        rw [← hW0]
        exact HD.out
      have hdw : wr.heap.size < W0.heap.size := by rw [← hW0]; simp
      clear hW0 HD c0 c1 c2 c3 c4 c5 c6 c7 c8
      generalize wr.heap.size = db at *
      have hd0 : W0.cell? ⟨db, 0, none⟩ = some (.int .i64 d.what) := by
        obtain ⟨_, _, _, _, t⟩ := HD0.out
        exact (deed_cells t.deed).1
      have hP := pick_any d.what 8 W0 hwh.1 hwh.2 (by omega) (by omega)
      have hlt8 := pickN_lt d.what 8 (by omega)
      generalize pickN d.what 8 = m at *
      go_cut [38] from 22 to 192 (fun s38 W => s38 = .int .i64 m ∧ W0 = W)
      case first =>
        go_wp2_with fail
        refine hP.mono ?_
        rintro e w' ⟨rfl, rfl⟩
        go_wp2_with fail
        go_meet
        exact ⟨rfl, rfl⟩
      case rest =>
      obtain ⟨rfl, rfl⟩ := hcut
      apply_assumption
      go_cut [] from 22 to 192 (fun W => Hid (Both w W p q db (dcells d)))
      case first =>
        obtain ⟨mi, hmi⟩ : ∃ mi : Int, (m : Int) = mi := ⟨_, rfl⟩
        have hm8 : mi = 0 ∨ mi = 1 ∨ mi = 2 ∨ mi = 3 ∨ mi = 4 ∨ mi = 5 ∨ mi = 6 ∨ mi = 7 := by omega
        rw [hmi]
        clear hmi hlt8
        rcases hm8 with rfl | rfl | rfl | rfl | rfl | rfl | rfl | rfl
        · as_aux_lemma =>
          obtain ⟨v, u, l, k, t⟩ := HD0.out
          obtain ⟨-, ⟨e0, e1, e2, e3, e4, e5⟩, -, -⟩ := deed_cells t.deed
          have hF := fill_any t.buf t.below.size d.e hoe
          have HT : Hid (T2 w W0 p q db (dcells d) v u l l k k) := t
          have HE : Hid (d.e.ok) := hoe
          clear t HD0 hd0 hP hoe
          unfold ev at hF
          cases hmb : mayB d.e with
          | true =>
            have hR : fL l d.e = fillL l d.e ∧ fK l k d.e = fillK l k d.e ∧ fR d.e = .nilIface := by simp [fL, fK, fR, hmb]
            rw [hR.1, hR.2.1, hR.2.2] at hF
            have HM : Hid (mayB d.e = true) := hmb
            clear hmb hR
            go_wp2_with fail
            refine hF.mono ?_
            rintro e w3 ⟨rfl, v3, b3, s3⟩
            have t3 := HT.out.bstep b3 s3
            clear e0 e1 e2 e3 e4 e5 hF b3 s3
            obtain ⟨-, ⟨e0, e1, e2, e3, e4, e5⟩, -, -⟩ := deed_cells t3.deed
            have hY := May_any d.e w3
            rw [HM.out] at hY
            unfold ev at hY
            have HT3 : Hid (T2 w w3 p q db (dcells d) v3 u (fillL l d.e) l (fillK l k d.e) k) := t3
            clear t3
            go_wp2_with fail
            refine hY.mono ?_
            rintro e w4 ⟨rfl, hb4⟩
            have t4 := HT3.out.next hb4
            clear e0 e1 e2 e3 e4 e5 hY hb4
            obtain ⟨-, ⟨e0, e1, e2, e3, e4, e5⟩, -, -⟩ := deed_cells t4.deed
            have hG := refFill_any t4.mod HT.out.buf.len HT.out.buf.may d.e ⟨HM.out, HE.out.2.2.2.2⟩
            unfold ev at hG
            have HT4 : Hid (T2 w w4 p q db (dcells d) v3 u (fillL l d.e) l (fillK l k d.e) k) := t4
            clear t4
            go_wp2_with fail
            refine hG.mono ?_
            rintro e w5 ⟨rfl, u5, m5, s5⟩
            have t5 := HT4.out.mstep m5 s5
            have HT5 : Hid (Both w w5 p q db (dcells d)) := ⟨_, _, _, _, t5⟩
            clear e0 e1 e2 e3 e4 e5 hG t5 m5 s5
            go_wp2_with fail
            go_meet
            exact HT5
          | false =>
            have hR : fL l d.e = l ∧ fK l k d.e = k ∧ fR d.e = errArg := by simp [fL, fK, fR, hmb]
            rw [hR.1, hR.2.1, hR.2.2] at hF
            have HM : Hid (mayB d.e = false) := hmb
            clear hmb hR
            unfold errArg at hF
            go_wp2_with fail
            refine hF.mono ?_
            rintro e w3 ⟨rfl, v3, b3, s3⟩
            have t3 := HT.out.bstep b3 s3
            clear e0 e1 e2 e3 e4 e5 hF b3 s3
            obtain ⟨-, ⟨e0, e1, e2, e3, e4, e5⟩, -, -⟩ := deed_cells t3.deed
            have hY := May_any d.e w3
            rw [HM.out] at hY
            unfold ev at hY
            have HT3 : Hid (T2 w w3 p q db (dcells d) v3 u l l k k) := t3
            clear t3
            go_wp2_with fail
            refine hY.mono ?_
            rintro e w4 ⟨rfl, hb4⟩
            have HT4 : Hid (Both w w4 p q db (dcells d)) := ⟨_, _, _, _, HT3.out.next hb4⟩
            clear e0 e1 e2 e3 e4 e5 hY hb4
            have hne := neq_err 1 w4
            go_wp2_with fail
            go_meet
            exact HT4
        · as_aux_lemma =>
          obtain ⟨v, u, l, k, t⟩ := HD0.out
          obtain ⟨-, ⟨e0, e1, e2, e3, e4, e5⟩, -, -⟩ := deed_cells t.deed
          have hF := fill_any t.buf t.below.size d.e hoe
          have HT : Hid (T2 w W0 p q db (dcells d) v u l l k k) := t
          have HE : Hid (d.e.ok) := hoe
          clear t HD0 hd0 hP hoe
          unfold ev at hF
          cases hmb : mayB d.e with
          | true =>
            have hR : fL l d.e = fillL l d.e ∧ fK l k d.e = fillK l k d.e ∧ fR d.e = .nilIface := by simp [fL, fK, fR, hmb]
            rw [hR.1, hR.2.1, hR.2.2] at hF
            have HM : Hid (mayB d.e = true) := hmb
            clear hmb hR
            go_wp2_with fail
            refine hF.mono ?_
            rintro e w3 ⟨rfl, v3, b3, s3⟩
            have t3 := HT.out.bstep b3 s3
            clear e0 e1 e2 e3 e4 e5 hF b3 s3
            obtain ⟨-, ⟨e0, e1, e2, e3, e4, e5⟩, -, -⟩ := deed_cells t3.deed
            have hY := May_any d.e w3
            rw [HM.out] at hY
            unfold ev at hY
            have HT3 : Hid (T2 w w3 p q db (dcells d) v3 u (fillL l d.e) l (fillK l k d.e) k) := t3
            clear t3
            go_wp2_with fail
            refine hY.mono ?_
            rintro e w4 ⟨rfl, hb4⟩
            have t4 := HT3.out.next hb4
            clear e0 e1 e2 e3 e4 e5 hY hb4
            obtain ⟨-, ⟨e0, e1, e2, e3, e4, e5⟩, -, -⟩ := deed_cells t4.deed
            have hG := refFill_any t4.mod HT.out.buf.len HT.out.buf.may d.e ⟨HM.out, HE.out.2.2.2.2⟩
            unfold ev at hG
            have HT4 : Hid (T2 w w4 p q db (dcells d) v3 u (fillL l d.e) l (fillK l k d.e) k) := t4
            clear t4
            go_wp2_with fail
            refine hG.mono ?_
            rintro e w5 ⟨rfl, u5, m5, s5⟩
            have t5 := HT4.out.mstep m5 s5
            have HT5 : Hid (Both w w5 p q db (dcells d)) := ⟨_, _, _, _, t5⟩
            clear e0 e1 e2 e3 e4 e5 hG t5 m5 s5
            go_wp2_with fail
            go_meet
            exact HT5
          | false =>
            have hR : fL l d.e = l ∧ fK l k d.e = k ∧ fR d.e = errArg := by simp [fL, fK, fR, hmb]
            rw [hR.1, hR.2.1, hR.2.2] at hF
            have HM : Hid (mayB d.e = false) := hmb
            clear hmb hR
            unfold errArg at hF
            go_wp2_with fail
            refine hF.mono ?_
            rintro e w3 ⟨rfl, v3, b3, s3⟩
            have t3 := HT.out.bstep b3 s3
            clear e0 e1 e2 e3 e4 e5 hF b3 s3
            obtain ⟨-, ⟨e0, e1, e2, e3, e4, e5⟩, -, -⟩ := deed_cells t3.deed
            have hY := May_any d.e w3
            rw [HM.out] at hY
            unfold ev at hY
            have HT3 : Hid (T2 w w3 p q db (dcells d) v3 u l l k k) := t3
            clear t3
            go_wp2_with fail
            refine hY.mono ?_
            rintro e w4 ⟨rfl, hb4⟩
            have HT4 : Hid (Both w w4 p q db (dcells d)) := ⟨_, _, _, _, HT3.out.next hb4⟩
            clear e0 e1 e2 e3 e4 e5 hY hb4
            have hne := neq_err 1 w4
            go_wp2_with fail
            go_meet
            exact HT4
        · as_aux_lemma =>
          obtain ⟨v, u, l, k, t⟩ := HD0.out
          obtain ⟨-, ⟨e0, e1, e2, e3, e4, e5⟩, -, -⟩ := deed_cells t.deed
          have hF := fill_any t.buf t.below.size d.e hoe
          have HT : Hid (T2 w W0 p q db (dcells d) v u l l k k) := t
          have HE : Hid (d.e.ok) := hoe
          clear t HD0 hd0 hP hoe
          unfold ev at hF
          cases hmb : mayB d.e with
          | true =>
            have hR : fL l d.e = fillL l d.e ∧ fK l k d.e = fillK l k d.e ∧ fR d.e = .nilIface := by simp [fL, fK, fR, hmb]
            rw [hR.1, hR.2.1, hR.2.2] at hF
            have HM : Hid (mayB d.e = true) := hmb
            clear hmb hR
            go_wp2_with fail
            refine hF.mono ?_
            rintro e w3 ⟨rfl, v3, b3, s3⟩
            have t3 := HT.out.bstep b3 s3
            clear e0 e1 e2 e3 e4 e5 hF b3 s3
            obtain ⟨-, ⟨e0, e1, e2, e3, e4, e5⟩, -, -⟩ := deed_cells t3.deed
            have hY := May_any d.e w3
            rw [HM.out] at hY
            unfold ev at hY
            have HT3 : Hid (T2 w w3 p q db (dcells d) v3 u (fillL l d.e) l (fillK l k d.e) k) := t3
            clear t3
            go_wp2_with fail
            refine hY.mono ?_
            rintro e w4 ⟨rfl, hb4⟩
            have t4 := HT3.out.next hb4
            clear e0 e1 e2 e3 e4 e5 hY hb4
            obtain ⟨-, ⟨e0, e1, e2, e3, e4, e5⟩, -, -⟩ := deed_cells t4.deed
            have hG := refFill_any t4.mod HT.out.buf.len HT.out.buf.may d.e ⟨HM.out, HE.out.2.2.2.2⟩
            unfold ev at hG
            have HT4 : Hid (T2 w w4 p q db (dcells d) v3 u (fillL l d.e) l (fillK l k d.e) k) := t4
            clear t4
            go_wp2_with fail
            refine hG.mono ?_
            rintro e w5 ⟨rfl, u5, m5, s5⟩
            have t5 := HT4.out.mstep m5 s5
            have HT5 : Hid (Both w w5 p q db (dcells d)) := ⟨_, _, _, _, t5⟩
            clear e0 e1 e2 e3 e4 e5 hG t5 m5 s5
            go_wp2_with fail
            go_meet
            exact HT5
          | false =>
            have hR : fL l d.e = l ∧ fK l k d.e = k ∧ fR d.e = errArg := by simp [fL, fK, fR, hmb]
            rw [hR.1, hR.2.1, hR.2.2] at hF
            have HM : Hid (mayB d.e = false) := hmb
            clear hmb hR
            unfold errArg at hF
            go_wp2_with fail
            refine hF.mono ?_
            rintro e w3 ⟨rfl, v3, b3, s3⟩
            have t3 := HT.out.bstep b3 s3
            clear e0 e1 e2 e3 e4 e5 hF b3 s3
            obtain ⟨-, ⟨e0, e1, e2, e3, e4, e5⟩, -, -⟩ := deed_cells t3.deed
            have hY := May_any d.e w3
            rw [HM.out] at hY
            unfold ev at hY
            have HT3 : Hid (T2 w w3 p q db (dcells d) v3 u l l k k) := t3
            clear t3
            go_wp2_with fail
            refine hY.mono ?_
            rintro e w4 ⟨rfl, hb4⟩
            have HT4 : Hid (Both w w4 p q db (dcells d)) := ⟨_, _, _, _, HT3.out.next hb4⟩
            clear e0 e1 e2 e3 e4 e5 hY hb4
            have hne := neq_err 1 w4
            go_wp2_with fail
            go_meet
            exact HT4
        · as_aux_lemma =>
          obtain ⟨v, u, l, k, t⟩ := HD0.out
          obtain ⟨-, ⟨e0, e1, e2, e3, e4, e5⟩, -, -⟩ := deed_cells t.deed
          have hF := fill_any t.buf t.below.size d.e hoe
          have HT : Hid (T2 w W0 p q db (dcells d) v u l l k k) := t
          have HE : Hid (d.e.ok) := hoe
          clear t HD0 hd0 hP hoe
          unfold ev at hF
          cases hmb : mayB d.e with
          | true =>
            have hR : fL l d.e = fillL l d.e ∧ fK l k d.e = fillK l k d.e ∧ fR d.e = .nilIface := by simp [fL, fK, fR, hmb]
            rw [hR.1, hR.2.1, hR.2.2] at hF
            have HM : Hid (mayB d.e = true) := hmb
            clear hmb hR
            go_wp2_with fail
            refine hF.mono ?_
            rintro e w3 ⟨rfl, v3, b3, s3⟩
            have t3 := HT.out.bstep b3 s3
            clear e0 e1 e2 e3 e4 e5 hF b3 s3
            obtain ⟨-, ⟨e0, e1, e2, e3, e4, e5⟩, -, -⟩ := deed_cells t3.deed
            have hY := May_any d.e w3
            rw [HM.out] at hY
            unfold ev at hY
            have HT3 : Hid (T2 w w3 p q db (dcells d) v3 u (fillL l d.e) l (fillK l k d.e) k) := t3
            clear t3
            go_wp2_with fail
            refine hY.mono ?_
            rintro e w4 ⟨rfl, hb4⟩
            have t4 := HT3.out.next hb4
            clear e0 e1 e2 e3 e4 e5 hY hb4
            obtain ⟨-, ⟨e0, e1, e2, e3, e4, e5⟩, -, -⟩ := deed_cells t4.deed
            have hG := refFill_any t4.mod HT.out.buf.len HT.out.buf.may d.e ⟨HM.out, HE.out.2.2.2.2⟩
            unfold ev at hG
            have HT4 : Hid (T2 w w4 p q db (dcells d) v3 u (fillL l d.e) l (fillK l k d.e) k) := t4
            clear t4
            go_wp2_with fail
            refine hG.mono ?_
            rintro e w5 ⟨rfl, u5, m5, s5⟩
            have t5 := HT4.out.mstep m5 s5
            have HT5 : Hid (Both w w5 p q db (dcells d)) := ⟨_, _, _, _, t5⟩
            clear e0 e1 e2 e3 e4 e5 hG t5 m5 s5
            go_wp2_with fail
            go_meet
            exact HT5
          | false =>
            have hR : fL l d.e = l ∧ fK l k d.e = k ∧ fR d.e = errArg := by simp [fL, fK, fR, hmb]
            rw [hR.1, hR.2.1, hR.2.2] at hF
            have HM : Hid (mayB d.e = false) := hmb
            clear hmb hR
            unfold errArg at hF
            go_wp2_with fail
            refine hF.mono ?_
            rintro e w3 ⟨rfl, v3, b3, s3⟩
            have t3 := HT.out.bstep b3 s3
            clear e0 e1 e2 e3 e4 e5 hF b3 s3
            obtain ⟨-, ⟨e0, e1, e2, e3, e4, e5⟩, -, -⟩ := deed_cells t3.deed
            have hY := May_any d.e w3
            rw [HM.out] at hY
            unfold ev at hY
            have HT3 : Hid (T2 w w3 p q db (dcells d) v3 u l l k k) := t3
            clear t3
            go_wp2_with fail
            refine hY.mono ?_
            rintro e w4 ⟨rfl, hb4⟩
            have HT4 : Hid (Both w w4 p q db (dcells d)) := ⟨_, _, _, _, HT3.out.next hb4⟩
            clear e0 e1 e2 e3 e4 e5 hY hb4
            have hne := neq_err 1 w4
            go_wp2_with fail
            go_meet
            exact HT4
        · as_aux_lemma =>
          obtain ⟨v, u, l, k, t⟩ := HD0.out
          obtain ⟨-, -, e0, -⟩ := deed_cells t.deed
          obtain ⟨au, cu, rfl⟩ := t.mod.row.form
          have HT : Hid (T2 w W0 p q db (dcells d) v (.slice au l.length cu) l l k k) := t
          by_cases hin : 0 ≤ d.n ∧ d.n < l.length
          · obtain ⟨N, hN⟩ : ∃ N : Nat, d.n = N := ⟨d.n.toNat, by omega⟩
            have hNl : N < l.length := by omega
            have hR := evict_yes t.buf N hNl
            rw [hN] at e0
            have HN : Hid (d.n = N) := hN
            clear t HD0 hd0 hP hin hN hn
            go_wp2_with fail
            refine hR.mono ?_
            rintro e w3 ⟨rfl, v3, b3, s3⟩
            have t3 := HT.out.bstep b3 s3
            obtain ⟨g2, hau, hl1, hl2⟩ : ∃ g2, au = some ⟨g2, 0, none⟩ ∧ l.length ≤ cu ∧ cu ≤ maxLen := by
              rcases t3.mod.row.cases' with ⟨_, rfl⟩ | ⟨g2, c', cur, hv, _, _, _, hlc, hcm, _, _⟩
              · simp at hNl
              · cases hv
                exact ⟨g2, rfl, hlc, hcm⟩
            subst hau
            unfold maxLen at hl2
            clear e0 hR b3 s3
            obtain ⟨-, -, e0, -⟩ := deed_cells t3.deed
            rw [HN.out] at e0
            obtain ⟨m0, -⟩ := t3.mod.cells
            have hz : (0 : Int) ≤ (N : Int) := by omega
            have hz2 : (N : Int) < (l.length : Int) := by omega
            have hz1 : decide ((0 : Int) ≤ (N : Int)) = true := by simp
            have hz3 : decide ((N : Int) < (l.length : Int)) = true := by simpa using hz2
            have HT3 : Hid (T2 w w3 p q db (dcells d) v3 (.slice (some ⟨g2, 0, none⟩) l.length cu) (without l N) l k k) := t3
            clear t3
            go_wp2_with fail
            go_quiet (fail)
            go_wp2_with fail
            go_name_world W3 hW3
            have t3 : T2 w W3 p q db (dcells d) v3 (.slice (some ⟨g2, 0, none⟩) l.length cu) (without l N) l k k := by
              rw [← hW3]
              exact HT3.out.next (below_drewN (Below.refl _ _) _)
            clear hW3 e0 m0 HT3
            obtain ⟨-, -, e0, -⟩ := deed_cells t3.deed
            rw [HN.out] at e0
            obtain ⟨m0, -⟩ := t3.mod.cells
            have HT3 : Hid (T2 w W3 p q db (dcells d) v3 (.slice (some ⟨g2, 0, none⟩) l.length cu) (without l N) l k k) := t3
            have hN64 : l.length ≤ 64 := HT.out.buf.len
            have hNc : N ≤ cu := by omega
            obtain ⟨M, hM⟩ : ∃ M : Nat, M = N + 1 := ⟨_, rfl⟩
            have hw1 : IntKind.i64.wrap ((N : Int) + 1) = (M : Int) := by rw [IntWalk.i64_in _ (by omega)]; omega
            have hM0 : (0 : Int) ≤ (M : Int) := by omega
            have hM1 : (M : Int) ≤ (l.length : Int) := by omega
            obtain ⟨o2, ho2, hso⟩ : ∃ o2 : Nat, (if cu = M then some (⟨g2, 0, none⟩ : Addr) else some ⟨g2, M * 6, none⟩) = some ⟨g2, o2, none⟩ ∧ (cu = M ∨ o2 = M * 6) := by
              by_cases h : cu = M
              · exact ⟨0, by simp [h], Or.inl h⟩
              · exact ⟨M * 6, by simp [h], Or.inr rfl⟩
            have hs1 := t3.mod.srow.head N cu (by omega)
            have hs2 := t3.mod.srow.from M o2 (cu - M) (by omega) (by omega)
            have hwo : without l N = l.take N ++ l.drop M := by rw [hM]; rfl
            have hpw := t3.mod.ptr.lt
            have hdw := t3.deed.lt
            generalize l.take N = la at *
            generalize l.drop M = lb at *
            have HS1 : Hid (SRow W3 q (some ⟨g2, 0, none⟩) N cu la) := hs1
            have HS2 : Hid (SRow W3 q (some ⟨g2, o2, none⟩) (l.length - M) (cu - M) lb) := hs2
            have HWO : Hid (without l N = la ++ lb) := hwo
            clear t3 hs1 hs2 hwo hM hso hz1 hz3
            have hz1 := HT3.out.mod.ptr.frozen 0
            refine wp_region_X (fun W => W.cell? ⟨q, 0, none⟩ = some (.slice (some ⟨g2, 0, none⟩) l.length cu) ∧ W.cell? ⟨db, 7, none⟩ = some (.int .i64 N)) [21] (by kernel_rfl) ?_
            have hHeld : (fun W : World => W.cell? ⟨q, 0, none⟩ = some (.slice (some ⟨g2, 0, none⟩) l.length cu) ∧ W.cell? ⟨db, 7, none⟩ = some (.int .i64 N)) W3.drew := ⟨m0, e0⟩
            refine wpAnyX_take (i := 0) (v := ?v0) rfl (by kernel_rfl) (by kernel_rfl) (by kernel_rfl) (by kernel_rfl) (by kernel_rfl) (fun _ _ _ h => h) (Or.inl ⟨by rfl, ?hy0⟩) hHeld ?rest0
            case hy0 => intro w hSw; (try dsimp only at hSw); go_simp; try with_reducible rfl
            case rest0 =>
            simp only [Act.put, List.setIfInBounds_toArray, List.set_cons_zero, List.set_cons_succ, List.getElem_toArray, List.getElem_cons_zero]
            refine wpAnyX_take (i := 2) (v := ?v2) rfl (by kernel_rfl) (by kernel_rfl) (by kernel_rfl) (by kernel_rfl) (by kernel_rfl) (fun _ _ _ h => h) (Or.inl ⟨by rfl, ?hy2⟩) hHeld ?rest2
            case hy2 => intro w hSw; (try dsimp only at hSw); go_simp; try with_reducible rfl
            case rest2 =>
            simp only [Act.put, List.setIfInBounds_toArray, List.set_cons_zero, List.set_cons_succ, List.getElem_toArray, List.getElem_cons_zero, List.getElem_cons_succ]
            refine wpAnyX_take (i := 3) (v := ?v3) rfl (by kernel_rfl) (by kernel_rfl) (by kernel_rfl) (by kernel_rfl) (by kernel_rfl) (fun _ _ _ h => h) (Or.inl ⟨by rfl, ?hy3⟩) hHeld ?rest3
            case hy3 => intro w hSw; (try dsimp only at hSw); go_simp; try with_reducible rfl
            case rest3 =>
            simp only [Act.put, List.setIfInBounds_toArray, List.set_cons_zero, List.set_cons_succ, List.getElem_toArray, List.getElem_cons_zero, List.getElem_cons_succ]
            refine wpAnyX_take (i := 4) (v := ?v4) rfl (by kernel_rfl) (by kernel_rfl) (by kernel_rfl) (by kernel_rfl) (by kernel_rfl) (fun _ _ _ h => h) (Or.inl ⟨by rfl, ?hy4⟩) hHeld ?rest4
            case hy4 => intro w hSw; (try dsimp only at hSw); go_simp; try with_reducible rfl
            case rest4 =>
            simp only [Act.put, List.setIfInBounds_toArray, List.set_cons_zero, List.set_cons_succ, List.getElem_toArray, List.getElem_cons_zero, List.getElem_cons_succ]
            refine wpAnyX_take (i := 5) (v := ?v5) rfl (by kernel_rfl) (by kernel_rfl) (by kernel_rfl) (by kernel_rfl) (by kernel_rfl) (fun _ _ _ h => h) (Or.inl ⟨by rfl, ?hy5⟩) hHeld ?rest5
            case hy5 => intro w hSw; (try dsimp only at hSw); go_simp; try with_reducible rfl
            case rest5 =>
            simp only [Act.put, List.setIfInBounds_toArray, List.set_cons_zero, List.set_cons_succ, List.getElem_toArray, List.getElem_cons_zero, List.getElem_cons_succ]
            refine wpAnyX_take (i := 6) (v := ?v6) rfl (by kernel_rfl) (by kernel_rfl) (by kernel_rfl) (by kernel_rfl) (by kernel_rfl) (fun _ _ _ h => h) (Or.inl ⟨by rfl, ?hy6⟩) hHeld ?rest6
            case hy6 => intro w hSw; (try dsimp only at hSw); go_simp; try with_reducible rfl
            case rest6 =>
            simp only [Act.put, List.setIfInBounds_toArray, List.set_cons_zero, List.set_cons_succ, List.getElem_toArray, List.getElem_cons_zero, List.getElem_cons_succ]
            refine wpAnyX_take (i := 7) (v := ?v7) rfl (by kernel_rfl) (by kernel_rfl) (by kernel_rfl) (by kernel_rfl) (by kernel_rfl) (fun _ _ _ h => h) (Or.inl ⟨by rfl, ?hy7⟩) hHeld ?rest7
            case hy7 => intro w hSw; (try dsimp only at hSw); go_simp; try with_reducible rfl
            case rest7 =>
            simp only [Act.put, List.setIfInBounds_toArray, List.set_cons_zero, List.set_cons_succ, List.getElem_toArray, List.getElem_cons_zero, List.getElem_cons_succ]
            refine wpAnyX_take (i := 8) (v := ?v8) rfl (by kernel_rfl) (by kernel_rfl) (by kernel_rfl) (by kernel_rfl) (by kernel_rfl) (fun _ _ _ h => h) (Or.inl ⟨by rfl, ?hy8⟩) hHeld ?rest8
            case hy8 => intro w hSw; (try dsimp only at hSw); go_simp; try with_reducible rfl
            case rest8 =>
            simp only [Act.put, List.setIfInBounds_toArray, List.set_cons_zero, List.set_cons_succ, List.getElem_toArray, List.getElem_cons_zero, List.getElem_cons_succ]
            refine wpAnyX_take (i := 10) (v := ?v10) rfl (by kernel_rfl) (by kernel_rfl) (by kernel_rfl) (by kernel_rfl) (by kernel_rfl) (fun _ _ _ h => h) (Or.inl ⟨by rfl, ?hy10⟩) hHeld ?rest10
            case hy10 => intro w hSw; (try dsimp only at hSw); go_simp; try with_reducible rfl
            case rest10 =>
            simp only [Act.put, List.setIfInBounds_toArray, List.set_cons_zero, List.set_cons_succ, List.getElem_toArray, List.getElem_cons_zero, List.getElem_cons_succ]
            refine wpAnyX_take (i := 11) (v := ?v11) rfl (by kernel_rfl) (by kernel_rfl) (by kernel_rfl) (by kernel_rfl) (by kernel_rfl) (fun _ _ _ h => h) (Or.inl ⟨by rfl, ?hy11⟩) hHeld ?rest11
            case hy11 => intro w hSw; (try dsimp only at hSw); go_simp; try with_reducible rfl
            case rest11 =>
            simp only [Act.put, List.setIfInBounds_toArray, List.set_cons_zero, List.set_cons_succ, List.getElem_toArray, List.getElem_cons_zero, List.getElem_cons_succ]
            refine wpAnyX_take (i := 12) (v := ?v12) rfl (by kernel_rfl) (by kernel_rfl) (by kernel_rfl) (by kernel_rfl) (by kernel_rfl) (fun _ _ _ h => h) (Or.inl ⟨by rfl, ?hy12⟩) hHeld ?rest12
            case hy12 => intro w hSw; (try dsimp only at hSw); go_simp; try with_reducible rfl
            case rest12 =>
            simp only [Act.put, List.setIfInBounds_toArray, List.set_cons_zero, List.set_cons_succ, List.getElem_toArray, List.getElem_cons_zero, List.getElem_cons_succ]
            refine wpAnyX_take (i := 13) (v := ?v13) rfl (by kernel_rfl) (by kernel_rfl) (by kernel_rfl) (by kernel_rfl) (by kernel_rfl) (fun _ _ _ h => h) (Or.inl ⟨by rfl, ?hy13⟩) hHeld ?rest13
            case hy13 => intro w hSw; (try dsimp only at hSw); go_simp; try with_reducible rfl
            case rest13 =>
            simp only [Act.put, List.setIfInBounds_toArray, List.set_cons_zero, List.set_cons_succ, List.getElem_toArray, List.getElem_cons_zero, List.getElem_cons_succ]
            refine wpAnyX_take (i := 14) (v := ?v14) rfl (by kernel_rfl) (by kernel_rfl) (by kernel_rfl) (by kernel_rfl) (by kernel_rfl) (fun _ _ _ h => h) (Or.inl ⟨by rfl, ?hy14⟩) hHeld ?rest14
            case hy14 => intro w hSw; (try dsimp only at hSw); go_simp; try with_reducible rfl
            case rest14 =>
            simp only [Act.put, List.setIfInBounds_toArray, List.set_cons_zero, List.set_cons_succ, List.getElem_toArray, List.getElem_cons_zero, List.getElem_cons_succ]
            refine wpAnyX_take (i := 15) (v := ?v15) rfl (by kernel_rfl) (by kernel_rfl) (by kernel_rfl) (by kernel_rfl) (by kernel_rfl) (fun _ _ _ h => h) (Or.inl ⟨by rfl, ?hy15⟩) hHeld ?rest15
            case hy15 => intro w hSw; (try dsimp only at hSw); go_simp; try with_reducible rfl
            case rest15 =>
            simp only [Act.put, List.setIfInBounds_toArray, List.set_cons_zero, List.set_cons_succ, List.getElem_toArray, List.getElem_cons_zero, List.getElem_cons_succ]
            refine wpAnyX_take (i := 16) (v := ?v16) rfl (by kernel_rfl) (by kernel_rfl) (by kernel_rfl) (by kernel_rfl) (by kernel_rfl) (fun _ _ _ h => h) (Or.inl ⟨by rfl, ?hy16⟩) hHeld ?rest16
            case hy16 => intro w hSw; (try dsimp only at hSw); go_simp; try with_reducible rfl
            case rest16 =>
            simp only [Act.put, List.setIfInBounds_toArray, List.set_cons_zero, List.set_cons_succ, List.getElem_toArray, List.getElem_cons_zero, List.getElem_cons_succ]
            refine wpAnyX_take (i := 17) (v := ?v17) rfl (by kernel_rfl) (by kernel_rfl) (by kernel_rfl) (by kernel_rfl) (by kernel_rfl) (fun _ _ _ h => h) (Or.inl ⟨by rfl, ?hy17⟩) hHeld ?rest17
            case hy17 => intro w hSw; (try dsimp only at hSw); go_simp; try with_reducible rfl
            case rest17 =>
            simp only [Act.put, List.setIfInBounds_toArray, List.set_cons_zero, List.set_cons_succ, List.getElem_toArray, List.getElem_cons_zero, List.getElem_cons_succ]
            have hd : Below W3.heap.size W3 W3.drew := (Below.refl W3.heap.size W3).drew
            have hd4 := hd.alloc (Nat.le_refl _) (.cells #[] 26)
            have HD4 : Hid (Below W3.heap.size W3 (W3.drew.alloc (.cells #[] 26))) := hd4
            have keep : ∀ W : World, Below W3.heap.size W3 W → (fun W : World => W.cell? ⟨q, 0, none⟩ = some (.slice (some ⟨g2, 0, none⟩) l.length cu) ∧ W.cell? ⟨db, 7, none⟩ = some (.int .i64 N)) W := fun W hb => ⟨((bcell hb).1 _ _ hpw).trans m0, ((bcell hb).1 _ _ hdw).trans e0⟩
            have KEEP : Hid _ := keep
            clear hd hd4 keep
            refine wpAnyX_one (i := 1) (by kernel_rfl) rfl (fun K hK => ?_)
            go_simp
            refine hK.out _ _ (KEEP.out _ HD4.out) ?_
            clear hK K hHeld
            refine wpAnyX_one (i := 9) (by kernel_rfl) rfl (fun K hK => ?_)
            refine step_new W3 (by rfl) (.tmp 100) (.tmp 107) (by rfl) W3.heap.size W3.heap.size la (by rfl) (Nat.le_refl _) (heap_news1 W3.drew _) HD4.out HD4.out.size (some ⟨g2, 0, none⟩) N cu (by rfl) HS1.out.1 HS1.out.2.1 (HS1.out.news fun b hlt _ => HD4.out.block b hlt) (by omega) ?_
            intro g5 c5 w5 ho5 L5 _
            have HO5 : Hid (Own W3.heap.size w5 (.slice (some ⟨g5, 0, none⟩) la.length c5) la) := ho5
            have HL5 : Hid (Below W3.heap.size W3 w5) := L5
            clear ho5 L5
            refine hK.out _ _ (KEEP.out _ HL5.out) ?_
            clear hK K
            simp only [Act.put, List.setIfInBounds_toArray]
            refine wpAnyX_one (i := 18) (by kernel_rfl) rfl (fun K hK => ?_)
            refine step_gen (by rfl) (.tmp 108) (.tmp 116) (by rfl) W3.heap.size g5 c5 la lb (by rfl) HO5.out (some ⟨g2, o2, none⟩) (l.length - M) (cu - M) (by rfl) HS2.out.1 HS2.out.2.1 (HS2.out.news fun b hlt _ => HL5.out.block b hlt) (by rw [HS1.out.1]; omega) HL5.out.size ?_
            intro g6 c6 w6 ho6 hgr
            have L6 : Below W3.heap.size W3 w6 := below_row HL5.out HL5.out.size hgr (World.ownsRow.lt HO5.out g5 rfl).1
            have z6 : w6.frozen? ⟨q, 0, none⟩ = false := ((bcell L6).2 q 0 hpw).trans hz1
            have b6 : w6.cell? ⟨q, 0, none⟩ = some (.slice (some ⟨g2, 0, none⟩) l.length cu) := ((bcell L6).1 q 0 hpw).trans m0
            have hHeld := KEEP.out _ L6
            have t6 := HT3.out.mstep (HT3.out.mod.store HT3.out.below.size L6 ho6).1 (HT3.out.mod.store HT3.out.below.size L6 ho6).2
            rw [HWO.out] at t6
            have HT6 : Hid (Both w (w6.setCell ⟨q, 0, none⟩ (.slice (some ⟨g6, 0, none⟩) (la ++ lb).length c6)) p q db (dcells d)) := ⟨_, _, _, _, t6⟩
            refine hK.out _ _ hHeld ?_
            clear hK K t6 ho6 hgr L6
            simp only [Act.put]
            refine wpAnyX_take (i := 19) (v := ?v19) rfl (by kernel_rfl) (by kernel_rfl) (by kernel_rfl) (by kernel_rfl) (by kernel_rfl) (fun _ _ _ h => h) (Or.inl ⟨by rfl, ?hy19⟩) hHeld ?rest19
            case hy19 => intro w hSw; (try dsimp only at hSw); go_simp; try with_reducible rfl
            case rest19 =>
            simp only [Act.put, List.setIfInBounds_toArray, List.set_cons_zero, List.set_cons_succ, List.getElem_toArray, List.getElem_cons_zero, List.getElem_cons_succ]
            refine wpAnyX_take (i := 20) (v := ?v20) rfl (by kernel_rfl) (by kernel_rfl) (by kernel_rfl) (by kernel_rfl) (by kernel_rfl) (fun _ _ _ h => h) (Or.inl ⟨by rfl, ?hy20⟩) hHeld ?rest20
            case hy20 => intro w hSw; (try dsimp only at hSw); go_simp; try with_reducible rfl
            case rest20 =>
            simp only [Act.put, List.setIfInBounds_toArray, List.set_cons_zero, List.set_cons_succ, List.getElem_toArray, List.getElem_cons_zero, List.getElem_cons_succ]
            refine wpAnyX_last (i := 21) (by kernel_rfl) rfl (by kernel_rfl) (fun K hK => ?_)
            go_simp
            refine hK.out _ _ ?_
            clear hK K
            refine wpAnyX_done (by kernel_rfl) ?_ _
            clear hHeld KEEP HD4 HS1 HS2 HO5 HL5 m0 e0
            go_wp2_with fail
            go_meet
            rw [show la.length + lb.length = (la ++ lb).length by simp]
            exact HT6
          · have hR := evict_no t.buf d.n hin
            unfold errNone at hR
            obtain ⟨m0, -⟩ := t.mod.cells
            clear t HD0 hd0 hP
            go_wp2_with fail
            refine hR.mono ?_
            rintro e w' ⟨rfl, rfl⟩
            have hne := neq_err 3
            have hz : (¬ (0 : Int) ≤ d.n) ∨ ((0 : Int) ≤ d.n ∧ ¬ d.n < (l.length : Int)) := by omega
            clear hin hR
            rcases hz with hz | ⟨hz, hz2⟩
            · have hz1 : decide ((0 : Int) ≤ d.n) = false := by simpa using hz
              go_wp2_with fail
              go_quiet (fail)
              have HT5 : Hid (Both w (w'.drewN nq) p q db (dcells d)) := ⟨_, _, _, _, HT.out.next (below_drewN (Below.refl _ _) _)⟩
              clear HT e0 m0
              go_wp2_with fail
              go_meet
              exact HT5
            · have hz1 : decide ((0 : Int) ≤ d.n) = true := by simpa using hz
              have hz3 : decide (d.n < (l.length : Int)) = false := by simpa using hz2
              go_wp2_with fail
              go_quiet (fail)
              have HT5 : Hid (Both w (w'.drewN nq) p q db (dcells d)) := ⟨_, _, _, _, HT.out.next (below_drewN (Below.refl _ _) _)⟩
              clear HT e0 m0
              go_wp2_with fail
              go_meet
              exact HT5
        · as_aux_lemma =>
          obtain ⟨v, u, l, k, t⟩ := HD0.out
          obtain ⟨-, -, e0, e1⟩ := deed_cells t.deed
          have hF := page_any t.buf d.n d.page
          have HT : Hid (T2 w W0 p q db (dcells d) v u l l k k) := t
          clear t HD0 hd0 hP
          go_wp2_with fail
          refine hF.mono ?_
          rintro e w3 ⟨rfl, v3, b3, s3⟩
          have t3 := HT.out.bstep b3 s3
          clear e0 e1 hF b3 s3
          obtain ⟨-, -, e0, e1⟩ := deed_cells t3.deed
          by_cases hp0 : d.page < 0
          · have hp1 : ¬ (0 ≤ d.page) := by omega
            have hst : stay (pgB d.n d.page) l = l := page_neg (fun x hx => (HT.out.buf.may x hx).1) hp0
            rw [hst] at t3
            have HT3 : Hid (Both w w3 p q db (dcells d)) := ⟨_, _, _, _, t3⟩
            clear t3 hst HT
            go_wp2_with fail
            go_meet
            exact HT3
          · have hp1 : 0 ≤ d.page := by omega
            have hG := refDropPage t3.mod t3.below.size HT.out.buf.len HT.out.buf.may d.n d.page hp0
            have HT3 : Hid (T2 w w3 p q db (dcells d) v3 u (stay (pgB d.n d.page) l) l k k) := t3
            clear t3
            go_wp2_with fail
            refine hG.mono ?_
            rintro e w5 ⟨rfl, u5, m5, s5⟩
            have HT5 : Hid (Both w w5 p q db (dcells d)) := ⟨_, _, _, _, HT3.out.mstep m5 s5⟩
            clear e0 e1 hG m5 s5
            go_wp2_with fail
            go_meet
            exact HT5
        · as_aux_lemma =>
          obtain ⟨v, u, l, k, t⟩ := HD0.out
          obtain ⟨-, -, e0, e1⟩ := deed_cells t.deed
          have hF := space_any t.buf d.n
          have HT : Hid (T2 w W0 p q db (dcells d) v u l l k k) := t
          clear t HD0 hd0 hP
          go_wp2_with fail
          refine hF.mono ?_
          rintro e w3 ⟨rfl, v3, b3, s3⟩
          have t3 := HT.out.bstep b3 s3
          clear e0 e1 hF b3 s3
          obtain ⟨-, -, e0, e1⟩ := deed_cells t3.deed
          have hG := refDropSpace t3.mod t3.below.size HT.out.buf.len HT.out.buf.may d.n
          have HT3 : Hid (T2 w w3 p q db (dcells d) v3 u (stay (spB d.n) l) l k k) := t3
          clear t3
          go_wp2_with fail
          refine hG.mono ?_
          rintro e w5 ⟨rfl, u5, m5, s5⟩
          have HT5 : Hid (Both w w5 p q db (dcells d)) := ⟨_, _, _, _, HT3.out.mstep m5 s5⟩
          clear e0 e1 hG m5 s5
          go_wp2_with fail
          go_meet
          exact HT5
        · as_aux_lemma =>
          obtain ⟨v, u, l, k, t⟩ := HD0.out
          obtain ⟨-, -, e0, e1⟩ := deed_cells t.deed
          have hQ := pick_any d.n 8 W0 hn.1 hn.2 (by omega) (by omega)
          have HT : Hid (T2 w W0 p q db (dcells d) v u l l k k) := t
          clear t HD0 hd0 hP
          generalize pickN d.n 8 = m2 at *
          by_cases hm2 : m2 = 0
          · subst hm2
            go_wp2_with fail
            refine hQ.mono ?_
            rintro e w' ⟨rfl, rfl⟩
            have hF := all_any HT.out.buf
            have hal : stay yesB l = [] := by simp [stay, yesB]
            rw [hal] at hF
            go_wp2_with fail
            refine hF.mono ?_
            rintro e w3 ⟨rfl, v3, b3, s3⟩
            have t3 := HT.out.bstep b3 s3
            have z1 := t3.mod.ptr.frozen 0
            obtain ⟨z2, -⟩ := t3.mod.cells
            have X := t3.mod.store (l' := []) t3.below.size (Below.refl _ _) (World.ownsRow_nil _ _ _ _)
            have HT5 : Hid (Both w (w3.setCell ⟨q, 0, none⟩ (.slice none 0 0)) p q db (dcells d)) := ⟨_, _, _, _, t3.mstep (l2 := []) X.1 X.2⟩
            clear e0 e1 hF b3 s3 t3 X hal
            go_wp2_with fail
            go_meet
            exact HT5
          · have hm3 : ((m2 : Int) == 0) = false := by simp; omega
            go_wp2_with fail
            refine hQ.mono ?_
            rintro e w' ⟨rfl, rfl⟩
            have HT5 : Hid (Both w w' p q db (dcells d)) := ⟨_, _, _, _, HT.out⟩
            clear e0 e1
            go_wp2_with fail
            go_meet
            exact HT5
      case rest =>
      as_aux_lemma =>
      obtain ⟨v, u, l, k, t⟩ := hcut.out
      clear HD0 hd0 hP hcut
      obtain ⟨-, -, e0, e1⟩ := deed_cells t.deed
      have hF := find_any t.buf d.n d.page
      have hG : ∀ W, Mod w.heap.size W q u l k → Calls Try.prog 25 #[.pointer (some ⟨q, 0, none⟩), .int .i64 d.n, .int .i64 d.page] W fun e w' => e = .returned (.tuple #[ev (fndE l d.n d.page), .bool (fndB l d.n d.page)]) ∧ Below W.heap.size W w' := fun W m => refFind_any m t.buf.len t.buf.may d.n d.page
      generalize fndE l d.n d.page = x at *
      generalize fndB l d.n d.page = f at *
      have HT : Hid (T2 w wc p q db (dcells d) v u l l k k) := t
      have HG : Hid _ := hG
      clear t hG
      have hff : (f != f) = false := by simp
      have hne := neq_ent x x
      rw [eqE_self] at hne
      unfold ev at hne hF
      simp only [Bool.not_true] at hne
      go_wp2_with fail
      refine hF.mono ?_
      rintro e w3 ⟨rfl, hb3⟩
      have t3 := HT.out.next hb3
      have hn3 := (Below.refl w3.heap.size w3).alloc (Nat.le_refl _) (.cells (ecells x) 26)
      have t4 := t3.next hn3
      have X4 := Laid.new w3 26 (ecells x)
      clear e0 e1
      obtain ⟨-, -, e0, e1⟩ := deed_cells t4.deed
      have HT4 : Hid (T2 w (w3.alloc (.cells (ecells x) 26)) p q db (dcells d) v u l l k k ∧ Laid (w3.alloc (.cells (ecells x) 26)) w3.heap.size 26 (ecells x)) := ⟨t4, X4⟩
      clear hF hb3 t3 hn3 t4 X4
      unfold ecells at e0 e1
      go_wp2_with fail
      have hG4 := HG.out _ HT4.out.1.mod
      unfold ev at hG4
      refine hG4.mono ?_
      rintro e w5 ⟨rfl, hb5⟩
      have t5 := HT4.out.1.next hb5
      have X5 := HT4.out.2.below hb5
      have hn5 := (Below.refl w5.heap.size w5).alloc (Nat.le_refl _) (.cells (ecells x) 26)
      have t6 := t5.next hn5
      have X6 := X5.below hn5
      have Y6 := Laid.new w5 26 (ecells x)
      obtain ⟨x0, x1, x2, x3, x4, x5⟩ := X6.ent
      obtain ⟨y0, y1, y2, y3, y4, y5⟩ := Y6.ent
      have hS := same_any t6.buf t6.mod
      have HT6 : Hid (T2 w (w5.alloc (.cells (ecells x) 26)) p q db (dcells d) v u l l k k) := t6
      clear e0 e1 hG4 hb5 t5 X5 hn5 t6 X6 Y6 HT4 HT HG
      unfold ecells at x0 x1 x2 x3 x4 x5 y0 y1 y2 y3 y4 y5
      go_wp2_with fail
      refine hS.mono ?_
      rintro e w7 ⟨rfl, hb7⟩
      have t7 := HT6.out.next hb7
      have HT7 : Hid (Two w w7 p q) := ⟨_, _, _, _, t7.buf, t7.mod, t7.apart, t7.below⟩
      clear hS hb7 t7 x0 x1 x2 x3 x4 x5 y0 y1 y2 y3 y4 y5 HT6
      go_wp2
      go_roundg (120 - (j + 1))
      case measure => rw [HGK.out]; omega
      case rel => exact ⟨j + 1, rfl, by omega, by omega, by go_num, HT7⟩
    · have hx : (¬ (j : Int) < (len : Int)) ∨ ((j : Int) < (len : Int) ∧ ¬ (j : Int) < 120) := by omega
      clear hlt hj hj8
      have HL : Hid (Below w.heap.size w wr) := by
        obtain ⟨_, _, _, _, _, _, _, L⟩ := HB.out
        exact L
      clear HB
      rcases hx with hx | ⟨hx, hy⟩
      · go_wp2
        go_ret
        exact ⟨rfl, HL.out⟩
      · go_wp2
        go_ret
        exact ⟨rfl, HL.out⟩
end Go.Proofs.Ytpkagigjcnjlpaa
