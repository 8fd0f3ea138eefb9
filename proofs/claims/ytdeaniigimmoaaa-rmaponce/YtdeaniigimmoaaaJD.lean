/- Own texts, joined: QAdd, QRem, QMov, QEq, QUp, QPick, ZArgs, QWd, QDd, QShelf. -/
import Derived.Test.YtdeaniigimmoaaaJC
import Derived.Test.YtdeaniigimmoaaaJB
import Derived.Laws.StructEq
import Derived.Test.YtdeaniigimmoaaaJA
import Derived.ProofKit
import Derived.OpenShut
import Derived.Deep.Slices
import Derived.Shelf.SlIterI.Nil
import Derived.Shelf.SortM.Plain
import Derived.Shelf.SortM.SortNone
import Derived.Test.YtdeaniigimmoaaaProg
/- Add. -/
namespace Go.Proofs.Ytdeaniigimmoaaa
open Go.RowKit

section
variable {A : Nat → Prop} {w W : World} {m bf bp b : Nat} {F : Fr} {G : Pg} {s p f : Int} {l : List Rw}
theorem nil_row {α : Type} (R : Rec α) (X : Th) : X.le ((Th.row R (.slice none 0 0) []).and X) := fun {F w} h =>
  ⟨fun _ => False, F, fun c => by simp, fun _ h _ => h, ⟨fun c => by simp [Value.ownBlock], Row.nil _ _ _⟩, h⟩
/-- A frame's pages, and the others. -/
theorem pg_pick (h : (PgT bp G).In A w) (hf : okI f) : ∃ v L, lkP L = G ∧ (∀ x ∈ L, x.2.2 ≠ []) ∧ (∀ W, Below w.heap.size w W → (Instr.lookup 57 (.map (some bp)) (.int .i64 f) false).run Try.prog W = .ok v W) ∧ Row rWh 0 w v (G f) ∧ Bec A w ((rwT (v, G f)).and (MXh whM rwT bp L f)) w := by
  obtain ⟨L, ⟨rfl, hne⟩, h⟩ := h
  have hm := MX.mp h
  cases e : getL L f with
  | none =>
    have e2 : lkP L f = [] := by unfold lkP; rw [e]
    refine ⟨.slice none 0 0, L, rfl, hne, fun W hb => ?_, ?_, ?_⟩
    · have := get_wh (hm.same (hb.block _ hm.lt)) hf
      rw [e] at this
      exact this
    · rw [e2]
      exact Row.nil _ _ _
    · rw [e2]
      exact (mx_hole h).imp (nil_row _ _)
  | some x =>
    have e2 : lkP L f = x.2 := by unfold lkP; rw [e]
    obtain ⟨C, h1, -⟩ := mx_open h e
    refine ⟨x.1, L, rfl, hne, fun W hb => ?_, ?_, ?_⟩
    · have := get_wh (hm.same (hb.block _ hm.lt)) hf
      rw [e] at this
      exact this
    · rw [e2]
      exact h1.2
    · rw [e2]
      exact Bec.refl (mx_pick h e)
theorem pg_store {v : Value} {L : PL} {l' : List Rw} (h : ((rwT (v, l')).and (MXh whM rwT bp L f)).In A w) (hf : okI f) (hne : ∀ x ∈ L, x.2.2 ≠ []) (hl : l' ≠ []) :
    ∃ w', (Instr.mapUpdate 57 (.map (some bp)) (.int .i64 f) v).run Try.prog w = .ok () w' ∧ Bec A w (PgT bp ((lkP L).set f l')) w' := by
  obtain ⟨w', r1, r2, -⟩ := mx_store (M := whM) h hf
  exact ⟨w', r1, r2.imp fun k => ⟨_, ⟨lkP_put L f (v, l'), put_ne hne hl⟩, k⟩⟩
theorem row_keep {α : Type} {R : Rec α} {w' : World} {v v' : Value} {l l' : List α} (h : (Th.row R v l).In A w) (hr : Row R 0 w' v' l') (hk : Keeps w w' (fun b => v.ownBlock = some b)) (hn : ∀ g, v'.ownBlock = some g → v.ownBlock = some g ∨ w.heap.size ≤ g) : Bec A w (.row R v' l') w' :=
  ⟨fun c => v'.ownBlock = some c, fun c hc => (hn c hc).imp (fun e => (h.1 c).2 e) id, row_in hr, hk.mono fun c _ e => (h.1 c).2 e⟩
theorem rb_rm (h : (RmB b s p m bf bp F G).In A w) : ∃ D, (RmX m bf bp F G).In D w ∧ ∀ {F' : Fr} {G' : Pg} {w' : World}, Bec D w (RmX m bf bp F' G') w' → Bec A w (RmB b s p m bf bp F' G') w' := by
  obtain ⟨D, h1, h2⟩ := In.open (and_comm _ _ h)
  exact ⟨D, h1, fun k => (h2 k).imp (and_comm _ _)⟩
def rbRest (b : Nat) (s p : Int) (m bf bp : Nat) (F : Fr) : Th := (wBox b s p).and ((Th.box m 59 #[.map (some bf), .map (some bp)]).and (FrT bf F))
theorem rest_cells (h : (rbRest b s p m bf bp F).In A w) : w.cell? ⟨m, 1, none⟩ = some (.map (some bp)) ∧ w.cell? ⟨b, 0, none⟩ = some (.int .i64 s) ∧ w.cell? ⟨b, 1, none⟩ = some (.int .i64 p) := by
  obtain ⟨_, _, _, _, h1, _, _, _, _, h2, _⟩ := h
  exact ⟨by rw [h2.2.cell]; rfl, by rw [h1.2.cell]; rfl, by rw [h1.2.cell]; rfl⟩
theorem rb_split : (RmB b s p m bf bp F G).le ((PgT bp G).and (rbRest b s p m bf bp F)) := fun {_ _} h => by
  refine and_comm _ _ (and_assoc' _ _ _ (and_mono (Th.le.refl _) (and_assoc' _ _ _) h))
theorem rb_join : ((PgT bp G).and (rbRest b s p m bf bp F)).le (RmB b s p m bf bp F G) := fun {_ _} h =>
  and_mono (Th.le.refl _) (and_assoc _ _ _) (and_assoc _ _ _ (and_comm _ _ h))
/-- Insert, and the store of what it tells. -/
def AddOp (A : Nat → Prop) (w : World) (m bf bp b : Nat) (s p f : Int) (F : Fr) (G' : Pg) (e : Ending) (w' : World) : Prop :=
  ∃ v' w6, e = .returned v' ∧ (w'.cell? ⟨m, 1, none⟩ = some (.map (some bp)) ∧ w'.cell? ⟨b, 0, none⟩ = some (.int .i64 s) ∧ w'.cell? ⟨b, 1, none⟩ = some (.int .i64 p)) ∧
    (Instr.mapUpdate 57 (.map (some bp)) (.int .i64 f) v').run Try.prog w' = .ok () w6 ∧ (w6.cell? ⟨m, 1, none⟩ = some (.map (some bp)) ∧ w6.cell? ⟨b, 0, none⟩ = some (.int .i64 s) ∧ w6.cell? ⟨b, 1, none⟩ = some (.int .i64 p)) ∧ Hid (Bec A w (RmB b s p m bf bp F G') w6)
theorem insert_op (h : (RmB b s p m bf bp F G).In A w) (hf : okI f) (hlen : (G f).length < 4096) {i : Nat} (hi : i ≤ (G f).length) :
    ∃ v, (∀ W, Below w.heap.size w W → (Instr.lookup 57 (.map (some bp)) (.int .i64 f) false).run Try.prog W = .ok v W) ∧ Row rWh 0 w v (G f) ∧
      Calls Try.prog 30 #[v, .int .i64 i, .slice (some ⟨w.heap.size, 0, none⟩) 1 1] (w.alloc (.cells #[.int .i64 s, .int .i64 p] 28)).drew (AddOp A w m bf bp b s p f F (G.set f ((G f).take i ++ ([⟨s, p, f⟩] ++ (G f).drop i)))) := by
  obtain ⟨D, h1, h2⟩ := In.open (rb_split h)
  obtain ⟨v, L, rfl, hne, q1, q2, q3⟩ := pg_pick h1 hf
  refine ⟨v, q1, q2, ?_⟩
  have hb := (new_below w (.cells #[.int .i64 s, .int .i64 p] 28)).drew
  obtain ⟨D2, k1, k2⟩ := (q3.below hb).next
  obtain ⟨D3, k3, k4⟩ := In.open k1
  have hsrc : Row rWh 0 (w.alloc (.cells #[.int .i64 s, .int .i64 p] 28)).drew (.slice (some ⟨w.heap.size, 0, none⟩) [Rw.mk s p f].length 1) [⟨s, p, f⟩] := by
    refine Row.of_cells (Nat.zero_le _) (heap_alloc_new _ _) (Nat.le_refl _) (by decide) rfl fun k hk j hj => ?_
    obtain rfl : k = 0 := by simp at hk; exact hk
    match j, hj with
    | 0, _ => rfl
    | 1, _ => rfl
  have hq : v.ownBlock ≠ some w.heap.size := fun e => by
    have := (q2.lt _ e).2
    omega
  refine (insert_rWh (k3.2) hsrc hq (by simp) (by simp; omega) (Nat.zero_le _) i hi).mono ?_
  rintro e w1 ⟨v', rfl, hr, hk, hn⟩
  have k5 := k4 (row_keep k3 hr hk hn)
  obtain ⟨D4, k6, k7⟩ := k5.next
  obtain ⟨w6, r1, r2⟩ := pg_store k6 hf hne (by simp)
  have k8 := h2 (k2 (k7 r2))
  obtain ⟨_, k9, -⟩ := (h2 (k2 k5)).next
  obtain ⟨_, _, _, _, _, k10⟩ := k9
  obtain ⟨_, k11, -⟩ := k8.next
  obtain ⟨_, _, _, _, _, k12⟩ := k11
  exact ⟨v', w6, rfl, rest_cells k10, r1, rest_cells k12, k8.imp rb_join⟩
/-- Add, as the document has it. -/
def AddD (l : List Rw) (s p f code : Int) (l' : List Rw) : Prop :=
  (¬ (Rw.mk s p f).may ∧ code = 1 ∧ l' = l) ∨ ((Rw.mk s p f).may ∧ atR l s p ≠ none ∧ code = 4 ∧ l' = l) ∨ ((Rw.mk s p f).may ∧ atR l s p = none ∧ code = 0 ∧ l' = putR l ⟨s, p, f⟩)
def RmP (A : Nat → Prop) (w : World) (m : Nat) (l' : List Rw) (code : Int) (e : Ending) (w' : World) : Prop := e = .returned (errV code) ∧ Hid (Bec A w (RmT m l') w')
variable {l' : List Rw} {code : Int}
theorem in_below {X : Th} (h : X.In A w) (hb : Below w.heap.size w W) : X.In A W := X.keeps h (Keeps.of_below hb (fun _ => False)) fun _ _ e => e
theorem bec_from {X : Th} {w' : World} (hb : Below w.heap.size w W) (h : Bec A W X w') : Bec A w X w' := by
  obtain ⟨F', h1, h2, h3⟩ := h
  have := hb.size
  exact ⟨F', fun c hc => (h1 c hc).imp id fun k => by omega, h2, (Keeps.of_below hb _).trans h3 fun _ _ e => e⟩
theorem box_end (h : Bec A w (RmB b s p m bf bp (frF l) (ofR l)) W) (hm : MayR l ∧ l.length ≤ 4096) : Bec A w (RmT m l) W := h.right.imp fun k => ⟨(bf, bp), hm, k⟩
set_option maxRecDepth 100000 in
set_option maxHeartbeats 8000000 in
theorem add_any (h : (RmT m l).In A w) (hs : okI s) (hp : okI p) (hf : okI f) (hlen : l.length < 4096) (hd : AddD l s p f code l') :
    Calls Try.prog 11 #[.pointer (some ⟨m, 0, none⟩), .int .i64 f, wv s p] w (RmP A w m l' code) := by
  obtain ⟨⟨bf, bp⟩, hm, h⟩ := h
  simp only at h
  obtain ⟨A1, h1, h2⟩ := (rb_start h s p).next
  have HH : Hid ((RmB w.heap.size s p m bf bp (frF l) (ofR l)).In A1 (w.alloc (.cells #[.int .i64 s, .int .i64 p] 28))) := h1
  have HQ : Hid (∀ {X : Th} {w'' : World}, Bec A1 (w.alloc (.cells #[.int .i64 s, .int .i64 p] 28)) X w'' → Bec A w X w'') := fun k => h2 k
  obtain ⟨c0, c1, x0, x1⟩ := rb_cells h1
  obtain ⟨lm, lb⟩ := rb_lt h1
  have hmf := mayF_any f
  have hmp := mayP_any s p
  have HM : Hid (MayR l ∧ l.length ≤ 4096) := hm
  unfold wv at *
  generalize hW : w.alloc (.cells #[.int .i64 s, .int .i64 p] 28) = W at *
  clear h h1 h2
  by_cases hmay : (Rw.mk s p f).may
  · obtain ⟨m1, m2⟩ := (may_iff f s p).2 hmay
    rw [m1] at hmf
    rw [m2] at hmp
    have hhas : Hid (∀ W', Below W.heap.size W W' → Calls Try.prog 26 #[.pointer (some ⟨m, 0, none⟩), .agg #[.int .i64 s, .int .i64 p]] W' fun e w' => e = .returned (.bool (frF l s p).isSome) ∧ Hid (Below W'.heap.size W' w')) := fun W' hb => by
      obtain ⟨D, g1, -⟩ := rb_rm (in_below HH.out hb)
      exact has_any g1 hs hp
    rcases hd with ⟨k, -⟩ | ⟨-, hat, rfl, rfl⟩ | ⟨-, hat, rfl, rfl⟩
    · exact absurd hmay k
    · rw [show (frF l' s p).isSome = true by rw [Option.isSome_iff_ne_none]; exact fun e => hat (fr_at.1 e)] at hhas
      clear hm hs hp hf hlen hmay m1 m2 hat
      go_enter Try.func11, Try.ntmps11
      go_wp2_with fail
      refine (hmf _).mono ?_
      rintro e w1 ⟨rfl, hw⟩
      obtain rfl := hw.symm
      clear hw
      go_wp2_with fail
      refine (hmp _).mono ?_
      rintro e w1 ⟨rfl, hb1⟩
      have HB1 : Hid (Below W.heap.size W w1) := hb1
      have y0 : w1.cell? ⟨w.heap.size, 0, none⟩ = some (.int .i64 s) := ((bcell hb1).1 _ _ lb).trans x0
      have y1 : w1.cell? ⟨w.heap.size, 1, none⟩ = some (.int .i64 p) := ((bcell hb1).1 _ _ lb).trans x1
      clear hb1 hmp hmf
      go_wp2_with fail
      refine (hhas.out _ HB1.out).mono ?_
      rintro e w2 ⟨rfl, HB2⟩
      go_wp2
      go_ret
      exact ⟨rfl, box_end (HQ.out (In.below HH.out (below_call' HB1.out HB2.out))) HM.out⟩
    · rw [fr_at.2 hat, Option.isSome_none] at hhas
      have HS : Hid (okI s ∧ okI p ∧ okI f ∧ l.length < 4096 ∧ (Rw.mk s p f).may ∧ atR l s p = none) := ⟨hs, hp, hf, hlen, hmay, hat⟩
      clear hm hs hp hf hlen hmay m1 m2 hat
      go_enter Try.func11, Try.ntmps11
      go_wp2_with fail
      refine (hmf _).mono ?_
      rintro e w1 ⟨rfl, hw⟩
      obtain rfl := hw.symm
      clear hw
      go_wp2_with fail
      refine (hmp _).mono ?_
      rintro e w1 ⟨rfl, hb1⟩
      have HB1 : Hid (Below W.heap.size W w1) := hb1
      have y0 : w1.cell? ⟨w.heap.size, 0, none⟩ = some (.int .i64 s) := ((bcell hb1).1 _ _ lb).trans x0
      have y1 : w1.cell? ⟨w.heap.size, 1, none⟩ = some (.int .i64 p) := ((bcell hb1).1 _ _ lb).trans x1
      clear hb1 hmp hmf
      go_wp2_with fail
      refine (hhas.out _ HB1.out).mono ?_
      rintro e w2 ⟨rfl, hb2⟩
      have HB2 : Hid (Below W.heap.size W w2) := below_call' HB1.out hb2.out
      have z0 : w2.cell? ⟨w.heap.size, 0, none⟩ = some (.int .i64 s) := ((bcell HB2.out).1 _ _ lb).trans x0
      have z1 : w2.cell? ⟨w.heap.size, 1, none⟩ = some (.int .i64 p) := ((bcell HB2.out).1 _ _ lb).trans x1
      have hgive : Calls Try.prog 27 #[.pointer (some ⟨m, 0, none⟩), .agg #[.int .i64 s, .int .i64 p], .int .i64 f] w2 fun e w' => e = .returned (.tuple #[]) ∧ Hid (Bec A1 w2 (RmB w.heap.size s p m bf bp ((frF l).set s p (some f)) (ofR l)) w') := by
        obtain ⟨D, g1, g2⟩ := rb_rm (in_below HH.out HB2.out)
        refine (give_any g1 HS.out.1 HS.out.2.1).mono ?_
        rintro e w3 ⟨rfl, hb3⟩
        exact ⟨rfl, g2 hb3.out⟩
      clear hb2 HB1 y0 y1 hhas x0 x1 c0 c1 lm lb
      go_wp2_with fail
      refine hgive.mono ?_
      rintro e w3 ⟨rfl, HB3⟩
      obtain ⟨A3, k3, kn3⟩ := HB3.out.next
      obtain ⟨d0, d1, v0, v1⟩ := rb_cells k3
      obtain ⟨n3, nb3⟩ := rb_lt k3
      have hofl := of_len l f
      obtain ⟨v, l0, l2, -⟩ := insert_op (i := 0) k3 HS.out.2.2.1 (by have := HS.out.2.2.2.1; omega) (Nat.zero_le _)
      have l1 := l0 w3 (Below.refl _ _)
      have HL0 : Hid (∀ W, Below w3.heap.size w3 W → (Instr.lookup 57 (.map (some bp)) (.int .i64 f) false).run Try.prog W = .ok v W) := l0
      have hbs := bsearch_any l2 (of_ris HM.out.1.1 f) (by have := HM.out.2; omega) ⟨s, p, f⟩
      unfold wv at hbs
      have HK3 : Hid ((RmB w.heap.size s p m bf bp ((frF l).set s p (some f)) (ofR l)).In A3 w3) := k3
      have HN3 : Hid (∀ {X' : Th} {w'' : World}, Bec A3 w3 X' w'' → Bec A1 w2 X' w'') := fun k => kn3 k
      obtain ⟨ao, cc, rfl⟩ := l2.form
      have HL2 : Hid (Row rWh 0 w3 (.slice ao (ofR l f).length cc) (ofR l f)) := l2
      clear k3 kn3 HB3 hgive z0 z1 l2 hofl l0
      simp only at hbs
      go_wp2_with fail
      refine hbs.mono ?_
      rintro e w4 ⟨i, bb, rfl, HP, HB4⟩
      obtain ⟨v2, q1, q2, q3⟩ := insert_op (in_below HK3.out HB4.out) HS.out.2.2.1 (by have := of_len l f; have := HS.out.2.2.2.1; omega) HP.out.1
      obtain ⟨e0, e1, u0, u1⟩ := rb_cells (in_below HK3.out HB4.out)
      obtain rfl : v2 = .slice ao (ofR l f).length cc := by
        have a1 := q1 w4 (Below.refl _ _)
        rw [HL0.out w4 HB4.out] at a1
        cases a1
        rfl
      have HPO : Hid (Pg.set (ofR l) f ((ofR l f).take i ++ ([⟨s, p, f⟩] ++ (ofR l f).drop i)) = ofR (putR l ⟨s, p, f⟩)) := of_put HM.out.1 (x := ⟨s, p, f⟩) HS.out.2.2.2.2.2 HP.out
      obtain ⟨n4, nb4⟩ := rb_lt (in_below HK3.out HB4.out)
      rw [HPO.out] at q3
      have dm := fun o v => cell_alloc_old n4 o v
      have db := fun o v => cell_alloc_old nb4 o v
      clear l1 hbs q1 q2 d0 d1 v0 v1 n3 nb3 HPO
      go_wp2_with fail
      go_region_held3 (fun w' => w'.cell? ⟨m, 1, none⟩ = some (.map (some bp)) ∧ w'.cell? ⟨w.heap.size, 0, none⟩ = some (.int .i64 s) ∧ w'.cell? ⟨w.heap.size, 1, none⟩ = some (.int .i64 p)) (go_keep) (first | (go_at_call 30; refine q3.mono ?_; rintro e w5 ⟨v5, w6, rfl, ⟨f0, f1, f2⟩, hup, ⟨h0, h1, h2⟩, HB6⟩))
      go_wp2
      go_ret
      obtain ⟨t1, t2, t3, t4, t5, t6⟩ := HS.out
      have hmay := put_may HM.out.1 (x := ⟨s, p, f⟩) t5 t6
      rw [frF_put HM.out.1 t6] at HB6
      exact ⟨rfl, box_end (HQ.out (bec_from HB2.out (HN3.out (bec_from HB4.out HB6.out)))) ⟨hmay, by rw [put_len]; omega⟩⟩
  · obtain ⟨rfl, rfl⟩ : code = 1 ∧ l' = l := by
      rcases hd with ⟨-, h1, h2⟩ | ⟨h, -⟩ | ⟨h, -⟩
      · exact ⟨h1, h2⟩
      · exact absurd h hmay
      · exact absurd h hmay
    clear hd
    by_cases m1 : mayFB f = true
    · have m2 : mayPB s p = false := by
        rw [← Bool.not_eq_true]
        exact fun k => hmay ((may_iff f s p).1 ⟨m1, k⟩)
      rw [m1] at hmf
      rw [m2] at hmp
      clear hm hs hp hf hlen hmay m1 m2
      go_enter Try.func11, Try.ntmps11
      go_wp2_with fail
      refine (hmf _).mono ?_
      rintro e w1 ⟨rfl, hw⟩
      obtain rfl := hw.symm
      clear hw
      go_wp2_with fail
      refine (hmp _).mono ?_
      rintro e w1 ⟨rfl, hb1⟩
      have HB1 : Hid (Below W.heap.size W w1) := hb1
      clear hb1 hmp hmf
      go_wp2
      go_ret
      exact ⟨rfl, box_end (HQ.out (In.below HH.out HB1.out)) HM.out⟩
    · rw [show mayFB f = false by rw [← Bool.not_eq_true]; exact m1] at hmf
      clear hm hs hp hf hlen hmay m1
      go_enter Try.func11, Try.ntmps11
      go_wp2_with fail
      refine (hmf _).mono ?_
      rintro e w1 ⟨rfl, hw⟩
      obtain rfl := hw.symm
      clear hw
      go_wp2
      go_ret
      exact ⟨rfl, box_end (HQ.out (Bec.refl HH.out)) HM.out⟩
end
end Go.Proofs.Ytdeaniigimmoaaa
/- Remove. -/
namespace Go.Proofs.Ytdeaniigimmoaaa
open Go.RowKit

section
variable {A : Nat → Prop} {w W : World} {m bf bp b : Nat} {F : Fr} {G : Pg} {s p f : Int} {l l' : List Rw}
theorem pg_gone (h : (PgT bp G).In A w) (hf : okI f) (ty : TypeId) : ∃ w', (Builtin.delete_ #[57, 3] ty #[.map (some bp), .int .i64 f]).run Try.prog w = .ok (.tuple #[]) w' ∧ Bec A w (PgT bp (G.set f [])) w' := by
  obtain ⟨L, ⟨rfl, hne⟩, h⟩ := h
  obtain ⟨w', r1, r2, -⟩ := mx_drop (M := whM) h hf ty
  exact ⟨w', r1, r2.imp fun k => ⟨_, ⟨lkP_del L f, del_ne hne⟩, k⟩⟩
theorem delete_op (h : (RmB b s p m bf bp F G).In A w) (hf : okI f) {i : Nat} (hi : i < (G f).length) (h2 : 2 ≤ (G f).length) :
    ∃ v, (∀ W, Below w.heap.size w W → (Instr.lookup 57 (.map (some bp)) (.int .i64 f) false).run Try.prog W = .ok v W) ∧
      Calls Try.prog 32 #[v, .int .i64 i, .int .i64 ((i + 1 : Nat) : Int)] w.drew (AddOp A w m bf bp b s p f F (G.set f ((G f).take i ++ (G f).drop (i + 1)))) := by
  obtain ⟨D, h1, h3⟩ := In.open (rb_split h)
  obtain ⟨v, L, rfl, hne, q1, q2, q3⟩ := pg_pick h1 hf
  refine ⟨v, q1, ?_⟩
  obtain ⟨D2, k1, k2⟩ := (q3.below (Below.refl _ _).drew).next
  obtain ⟨D3, k3, k4⟩ := In.open k1
  rcases q2.cases with ⟨_, e⟩ | ⟨g, c, cur, rfl, _⟩
  · rw [e] at hi
    simp at hi
  · refine (deleteI_rWh k3.2 i hi).mono ?_
    rintro e w1 ⟨rfl, hr, hk⟩
    have k5 := k4 (row_keep k3 hr (hk.mono fun b _ e => by rw [e]; rfl) fun g' hg' => Or.inl (by simpa [Value.ownBlock] using hg'))
    obtain ⟨D4, k6, k7⟩ := k5.next
    have hne2 : (lkP L f).take i ++ (lkP L f).drop (i + 1) ≠ [] := fun e => by
      have := congrArg List.length e
      rw [List.length_append, List.length_take, List.length_drop, List.length_nil] at this
      omega
    obtain ⟨w6, r1, r2⟩ := pg_store k6 hf hne hne2
    have k8 := h3 (k2 (k7 r2))
    obtain ⟨_, k9, -⟩ := (h3 (k2 k5)).next
    obtain ⟨_, _, _, _, _, k10⟩ := k9
    obtain ⟨_, k11, -⟩ := k8.next
    obtain ⟨_, _, _, _, _, k12⟩ := k11
    exact ⟨_, w6, rfl, rest_cells k10, r1, rest_cells k12, k8.imp rb_join⟩
theorem rb_pg' (h : (RmB b s p m bf bp F G).In A w) : ∃ D, (PgT bp G).In D w ∧ ∀ {G' : Pg} {w' : World}, Bec D w (PgT bp G') w' → Bec A w (RmB b s p m bf bp F G') w' := by
  obtain ⟨D, h1, h2⟩ := In.open (rb_split h)
  exact ⟨D, h1, fun k => (h2 k).imp rb_join⟩
def RemP (A : Nat → Prop) (w : World) (m : Nat) (l' : List Rw) (r : Option Int) (e : Ending) (w' : World) : Prop := e = .returned (frV r) ∧ Hid (Bec A w (RmT m l') w')
set_option maxRecDepth 100000 in
set_option maxHeartbeats 8000000 in
theorem remove_no (h : (RmT m l).In A w) (hs : okI s) (hp : okI p) (hn : atR l s p = none) :
    Calls Try.prog 14 #[.pointer (some ⟨m, 0, none⟩), wv s p] w (RemP A w m l none) := by
  obtain ⟨⟨bf, bp⟩, hm, h⟩ := h
  simp only at h
  obtain ⟨A1, h1, h2⟩ := (rb_start h s p).next
  have HH : Hid ((RmB w.heap.size s p m bf bp (frF l) (ofR l)).In A1 (w.alloc (.cells #[.int .i64 s, .int .i64 p] 28))) := h1
  have HQ : Hid (∀ {X : Th} {w'' : World}, Bec A1 (w.alloc (.cells #[.int .i64 s, .int .i64 p] 28)) X w'' → Bec A w X w'') := fun k => h2 k
  obtain ⟨c0, c1, x0, x1⟩ := rb_cells h1
  have HM : Hid (MayR l ∧ l.length ≤ 4096) := hm
  obtain ⟨D, g1, -⟩ := rb_rm h1
  have hfr := frame_x g1 hs hp
  rw [fr_at.2 hn] at hfr
  unfold wv frV at *
  generalize hW : w.alloc (.cells #[.int .i64 s, .int .i64 p] 28) = W at *
  clear h h1 h2 g1 hn hs hp hm
  go_enter Try.func14, Try.ntmps14
  go_wp2_with fail
  refine hfr.mono ?_
  rintro e w1 ⟨rfl, HB1⟩
  go_wp2
  go_ret2
  exact ⟨rfl, box_end (HQ.out (In.below HH.out HB1.out)) HM.out⟩
theorem pg_len1 (h : MayR l) {x : Rw} (hx : x ∈ l) (h1 : (ofR l x.f).length = 1) : Pg.set (ofR l) x.f [] = ofR (dropR l x.s x.p) := by
  have h2 := of_drop_len h hx
  have h3 : ofR (dropR l x.s x.p) x.f = [] := List.length_eq_zero_iff.1 (by omega)
  rw [← of_drop0 h hx, h3]
set_option maxRecDepth 100000 in
set_option maxHeartbeats 8000000 in
theorem remove_yes (h : (RmT m l).In A w) (hs : okI s) (hp : okI p) {x : Rw} (hx : atR l s p = some x) :
    Calls Try.prog 14 #[.pointer (some ⟨m, 0, none⟩), wv s p] w (RemP A w m (dropR l s p) (some x.f)) := by
  obtain ⟨⟨bf, bp⟩, hm, h⟩ := h
  simp only at h
  obtain ⟨x1, rfl, rfl⟩ := at_some hx
  have hfe : frF l x.s x.p = some x.f := by unfold frF; rw [hx]; rfl
  have hfo : okI x.f := by have := (hm.1.2 x x1).1; have := (hm.1.2 x x1).2.1; exact ⟨by omega, by omega⟩
  obtain ⟨s, p, f⟩ := x
  simp only at *
  obtain ⟨A1, h1, h2⟩ := (rb_start h s p).next
  have HH : Hid ((RmB w.heap.size s p m bf bp (frF l) (ofR l)).In A1 (w.alloc (.cells #[.int .i64 s, .int .i64 p] 28))) := h1
  have HQ : Hid (∀ {X : Th} {w'' : World}, Bec A1 (w.alloc (.cells #[.int .i64 s, .int .i64 p] 28)) X w'' → Bec A w X w'') := fun k => h2 k
  obtain ⟨c0, c1, y0, y1⟩ := rb_cells h1
  obtain ⟨lm, lb⟩ := rb_lt h1
  have HM : Hid (MayR l ∧ l.length ≤ 4096) := hm
  have HS : Hid (okI s ∧ okI p ∧ okI f ∧ Rw.mk s p f ∈ l) := ⟨hs, hp, hfo, x1⟩
  obtain ⟨D, g1, -⟩ := rb_rm h1
  have hfr := frame_x g1 hs hp
  rw [hfe] at hfr
  have hdl : (dropR l s p).length ≤ 4096 := Nat.le_trans (List.length_filter_le _ _) hm.2
  have HD : Hid (MayR (dropR l s p) ∧ (dropR l s p).length ≤ 4096) := ⟨drop_may hm.1 s p, hdl⟩
  have htake : Hid (∀ W', Below (w.alloc (.cells #[.int .i64 s, .int .i64 p] 28)).heap.size (w.alloc (.cells #[.int .i64 s, .int .i64 p] 28)) W' → Calls Try.prog 31 #[.pointer (some ⟨m, 0, none⟩), .agg #[.int .i64 s, .int .i64 p]] W' fun e w' => e = .returned (.tuple #[]) ∧ Hid (Bec A1 W' (RmB w.heap.size s p m bf bp (frF (dropR l s p)) (ofR l)) w')) := fun W' hb => by
    obtain ⟨D, g1, g2⟩ := rb_rm (in_below HH.out hb)
    refine (take_any g1 hs hp (by rw [hfe]; simp)).mono ?_
    rintro e w3 ⟨rfl, hb3⟩
    rw [frF_drop hm.1] at hb3
    exact ⟨rfl, g2 hb3.out⟩
  unfold wv frV at *
  generalize hW : w.alloc (.cells #[.int .i64 s, .int .i64 p] 28) = W at *
  clear h h1 h2 g1 hs hp hm x1 hx hfe hfo hdl
  by_cases hone : (ofR l f).length = 1
  · have HO : Hid (Pg.set (ofR l) f [] = ofR (dropR l s p)) := pg_len1 HM.out.1 HS.out.2.2.2 hone
    go_enter Try.func14, Try.ntmps14
    go_wp2_with fail
    refine hfr.mono ?_
    rintro e w1 ⟨rfl, HB1⟩
    have z0 : w1.cell? ⟨w.heap.size, 0, none⟩ = some (.int .i64 s) := ((bcell HB1.out).1 _ _ lb).trans y0
    have z1 : w1.cell? ⟨w.heap.size, 1, none⟩ = some (.int .i64 p) := ((bcell HB1.out).1 _ _ lb).trans y1
    clear hfr
    go_wp2_with fail
    refine (htake.out w1 HB1.out).mono ?_
    rintro e w2 ⟨rfl, HB2⟩
    obtain ⟨A2, k1, k2⟩ := HB2.out.next
    obtain ⟨d0, d1, v0, v1⟩ := rb_cells k1
    obtain ⟨D2, j1, j2⟩ := rb_pg' k1
    obtain ⟨v, q1, q2⟩ := pg_see j1 HS.out.2.2.1
    obtain ⟨ao, c, rfl⟩ := q2.form
    have q3 := q1 w2 (Below.refl _ _)
    obtain ⟨w3, r1, r2⟩ := pg_gone j1 HS.out.2.2.1 0
    have r1' : ∀ ty, (Builtin.delete_ #[57, 3] ty #[.map (some bp), .int .i64 f]).run Try.prog w2 = .ok (.tuple #[]) w3 := fun ty => r1
    rw [HO.out] at r2
    have HE : Hid (Bec A w (RmT m (dropR l s p)) w3) := box_end (HQ.out (bec_from HB1.out (k2 (j2 r2)))) HD.out
    have hone' : ((ofR l f).length : Int) = 1 := by omega
    clear k1 k2 j1 j2 q1 q2 r2 r1 htake
    rw [hone] at q3
    go_wp2
    go_ret2
    exact ⟨rfl, HE⟩
  · have HX : Hid (2 ≤ (ofR l f).length) := by
      have : 0 < (ofR l f).length := List.length_pos_iff.2 fun e => by
        have := of_mem.2 ⟨HS.out.2.2.2, rfl⟩
        simp only at this
        rw [e] at this
        simp at this
      show 2 ≤ _
      omega
    have hone' : ¬ ((ofR l f).length : Int) = 1 := by omega
    clear hone
    go_enter Try.func14, Try.ntmps14
    go_wp2_with fail
    refine hfr.mono ?_
    rintro e w1 ⟨rfl, HB1⟩
    have z0 : w1.cell? ⟨w.heap.size, 0, none⟩ = some (.int .i64 s) := ((bcell HB1.out).1 _ _ lb).trans y0
    have z1 : w1.cell? ⟨w.heap.size, 1, none⟩ = some (.int .i64 p) := ((bcell HB1.out).1 _ _ lb).trans y1
    clear hfr
    go_wp2_with fail
    refine (htake.out w1 HB1.out).mono ?_
    rintro e w2 ⟨rfl, HB2⟩
    obtain ⟨A2, k1, k2⟩ := HB2.out.next
    obtain ⟨d0, d1, v0, v1⟩ := rb_cells k1
    obtain ⟨D2, j1, j2⟩ := rb_pg' k1
    obtain ⟨v, q1, q2⟩ := pg_see j1 HS.out.2.2.1
    obtain ⟨ao, c, rfl⟩ := q2.form
    have q3 := q1 w2 (Below.refl _ _)
    have HL0 : Hid (∀ W, Below w2.heap.size w2 W → (Instr.lookup 57 (.map (some bp)) (.int .i64 f) false).run Try.prog W = .ok (.slice ao (ofR l f).length c) W) := q1
    have hbs := bsearch_any q2 (of_ris HM.out.1.1 f) (by have := of_len l f; have := HM.out.2; omega) ⟨s, p, f⟩
    unfold wv at hbs
    simp only at hbs
    have HK : Hid ((RmB w.heap.size s p m bf bp (frF (dropR l s p)) (ofR l)).In A2 w2) := k1
    have HN : Hid (∀ {X : Th} {w'' : World}, Bec A2 w2 X w'' → Bec A1 w1 X w'') := fun k => k2 k
    clear k1 k2 j1 j2 q1 q2 htake z0 z1 c0 c1 y0 y1 lm lb
    go_wp2_with fail
    refine hbs.mono ?_
    rintro e w4 ⟨i, bb, rfl, HP, HB4⟩
    obtain ⟨hpi, hpx⟩ := pos_at (of_ris HM.out.1.1 f) HP.out (of_mem.2 ⟨HS.out.2.2.2, rfl⟩)
    obtain ⟨v2, p1, p3⟩ := delete_op (in_below HK.out HB4.out) HS.out.2.2.1 hpi HX.out
    obtain rfl : v2 = .slice ao (ofR l f).length c := by
      have a1 := p1 w4 (Below.refl _ _)
      rw [HL0.out w4 HB4.out] at a1
      cases a1
      rfl
    have hpo : Pg.set (ofR l) f ((ofR l f).take i ++ (ofR l f).drop (i + 1)) = ofR (dropR l s p) := of_drop HM.out.1 HS.out.2.2.2 HP.out
    obtain ⟨e0, e1, u0, u1⟩ := rb_cells (in_below HK.out HB4.out)
    rw [hpo] at p3
    obtain ⟨k, hk⟩ : ∃ k, i + 1 = k := ⟨_, rfl⟩
    have hw1 : IntKind.i64.wrap ((i : Int) + 1) = (k : Int) := by
      rw [IntWalk.i64_left, IntWalk.wrap64_in _ (by have := of_len l f; have := HM.out.2; omega)]
      omega
    rw [hk] at p3
    clear q3 hbs p1 d0 d1 v0 v1 hpo hpi hpx hk
    go_wp2_with fail
    refine wp_region_X (fun w' => w'.cell? ⟨m, 1, none⟩ = some (.map (some bp))) [10] (by kernel_rfl) ?_
    have hHeld : w4.drew.cell? ⟨m, 1, none⟩ = some (.map (some bp)) := e1
    refine wpAnyX_take (i := 0) (v := ?v0) rfl (by kernel_rfl) (by kernel_rfl) (by kernel_rfl) (by kernel_rfl) (by kernel_rfl) (fun _ _ _ h => h) (Or.inl ⟨by rfl, ?hy0⟩) hHeld ?rest0
    case hy0 => intro w hSw; (try dsimp only at hSw); go_simp; try with_reducible rfl
    case rest0 =>
    simp only [Act.put, List.setIfInBounds_toArray, List.set_cons_zero, List.set_cons_succ, List.getElem_toArray, List.getElem_cons_zero]
    refine wpAnyX_take (i := 1) (v := ?v1) rfl (by kernel_rfl) (by kernel_rfl) (by kernel_rfl) (by kernel_rfl) (by kernel_rfl) (fun _ _ _ h => h) (Or.inl ⟨by rfl, ?hy1⟩) hHeld ?rest1
    case hy1 => intro w hSw; (try dsimp only at hSw); go_simp; try with_reducible rfl
    case rest1 =>
    simp only [Act.put, List.setIfInBounds_toArray, List.set_cons_zero, List.set_cons_succ, List.getElem_toArray, List.getElem_cons_zero, List.getElem_cons_succ]
    refine wpAnyX_take (i := 2) (v := ?v2) rfl (by kernel_rfl) (by kernel_rfl) (by kernel_rfl) (by kernel_rfl) (by kernel_rfl) (fun _ _ _ h => h) (Or.inl ⟨by rfl, ?hy2⟩) hHeld ?rest2
    case hy2 => intro w hSw; (try dsimp only at hSw); go_simp; try with_reducible rfl
    case rest2 =>
    simp only [Act.put, List.setIfInBounds_toArray, List.set_cons_zero, List.set_cons_succ, List.getElem_toArray, List.getElem_cons_zero, List.getElem_cons_succ]
    refine wpAnyX_take (i := 3) (v := ?v3) rfl (by kernel_rfl) (by kernel_rfl) (by kernel_rfl) (by kernel_rfl) (by kernel_rfl) (fun _ _ _ h => h) (Or.inl ⟨by rfl, ?hy3⟩) hHeld ?rest3
    case hy3 => intro w hSw; (try dsimp only at hSw); go_simp; try with_reducible rfl
    case rest3 =>
    simp only [Act.put, List.setIfInBounds_toArray, List.set_cons_zero, List.set_cons_succ, List.getElem_toArray, List.getElem_cons_zero, List.getElem_cons_succ]
    refine wpAnyX_take (i := 4) (v := ?v4) rfl (by kernel_rfl) (by kernel_rfl) (by kernel_rfl) (by kernel_rfl) (by kernel_rfl) (fun _ _ _ h => h) (Or.inl ⟨by rfl, ?hy4⟩) hHeld ?rest4
    case hy4 => intro w hSw; (try dsimp only at hSw); go_simp; try with_reducible rfl
    case rest4 =>
    simp only [Act.put, List.setIfInBounds_toArray, List.set_cons_zero, List.set_cons_succ, List.getElem_toArray, List.getElem_cons_zero, List.getElem_cons_succ]
    refine wpAnyX_take (i := 5) (v := ?v5) rfl (by kernel_rfl) (by kernel_rfl) (by kernel_rfl) (by kernel_rfl) (by kernel_rfl) (fun _ _ _ h => h) (Or.inl ⟨by rfl, ?hy5⟩) hHeld ?rest5
    case hy5 => intro w hSw; (try dsimp only at hSw); go_simp; try with_reducible rfl
    case rest5 =>
    simp only [Act.put, List.setIfInBounds_toArray, List.set_cons_zero, List.set_cons_succ, List.getElem_toArray, List.getElem_cons_zero, List.getElem_cons_succ]
    refine wpAnyX_take (i := 6) (v := ?v6) rfl (by kernel_rfl) (by kernel_rfl) (by kernel_rfl) (by kernel_rfl) (by kernel_rfl) (fun _ _ _ h => h) (Or.inl ⟨by rfl, ?hy6⟩) hHeld ?rest6
    case hy6 => intro w hSw; (try dsimp only at hSw); go_simp; try with_reducible rfl
    case rest6 =>
    simp only [Act.put, List.setIfInBounds_toArray, List.set_cons_zero, List.set_cons_succ, List.getElem_toArray, List.getElem_cons_zero, List.getElem_cons_succ]
    refine wpAnyX_take (i := 7) (v := ?v7) rfl (by kernel_rfl) (by kernel_rfl) (by kernel_rfl) (by kernel_rfl) (by kernel_rfl) (fun _ _ _ h => h) (Or.inl ⟨by rfl, ?hy7⟩) hHeld ?rest7
    case hy7 => intro w hSw; (try dsimp only at hSw); go_simp; try with_reducible rfl
    case rest7 =>
    simp only [Act.put, List.setIfInBounds_toArray, List.set_cons_zero, List.set_cons_succ, List.getElem_toArray, List.getElem_cons_zero, List.getElem_cons_succ]
    refine wpAnyX_take (i := 8) (v := ?v8) rfl (by kernel_rfl) (by kernel_rfl) (by kernel_rfl) (by kernel_rfl) (by kernel_rfl) (fun _ _ _ h => h) (Or.inl ⟨by rfl, ?hy8⟩) hHeld ?rest8
    case hy8 => intro w hSw; (try dsimp only at hSw); go_simp; try with_reducible rfl
    case rest8 =>
    simp only [Act.put, List.setIfInBounds_toArray, List.set_cons_zero, List.set_cons_succ, List.getElem_toArray, List.getElem_cons_zero, List.getElem_cons_succ]
    refine wpAnyX_one (i := 9) (by kernel_rfl) rfl (fun K hK => ?_)
    go_simp
    refine p3.mono ?_
    rintro e w5 ⟨v5, w6, rfl, ⟨f0, f1, f2⟩, hup, ⟨h0, h1, h2⟩, HB6⟩
    refine hK.out _ _ f0 ?_
    clear hK K hHeld
    refine wpAnyX_last (i := 10) (by kernel_rfl) rfl (by kernel_rfl) (fun K hK => ?_)
    go_simp
    refine hK.out _ _ ?_
    clear hK K
    refine wpAnyX_done (by kernel_rfl) ?_ _
    go_wp2
    go_ret2
    exact ⟨rfl, box_end (HQ.out (bec_from HB1.out (HN.out (bec_from HB4.out HB6.out)))) HD.out⟩
end
end Go.Proofs.Ytdeaniigimmoaaa
/- Move. -/
namespace Go.Proofs.Ytdeaniigimmoaaa
open Go.RowKit

/-- Move, as the document has it. -/
def MoveD (l : List Rw) (a b code : Int) (l' : List Rw) : Prop :=
  (¬ (mayFB a = true ∧ mayFB b = true ∧ a ≠ b) ∧ code = 1 ∧ l' = l) ∨ ((mayFB a = true ∧ mayFB b = true ∧ a ≠ b) ∧ ofR l b ≠ [] ∧ code = 7 ∧ l' = l) ∨ ((mayFB a = true ∧ mayFB b = true ∧ a ≠ b) ∧ ofR l b = [] ∧ code = 0 ∧ l' = moveR l a b)
section
variable {A : Nat → Prop} {w W : World} {m bf bp : Nat} {F : Fr} {G : Pg} {a b code : Int} {l l' : List Rw} {Y : Th}
theorem rt_end (h : Bec A w (RmX m bf bp (frF l) (ofR l)) W) (hm : MayR l ∧ l.length ≤ 4096) : Bec A w (RmT m l) W := h.imp fun k => ⟨(bf, bp), hm, k⟩
theorem move_yes {PLs : PL} {v : Value} {L : List Rw} (h : (RmY m bf bp F (MX whM rwT bp PLs)).In A w) (hne : ∀ x ∈ PLs, x.2.2 ≠ []) (h1 : getL PLs a = some (v, L)) (h2 : getL PLs b = none) (ha : okI a) (hb : okI b) (ty : TypeId) :
    ∃ w1 w2, (Instr.mapUpdate 57 (.map (some bp)) (.int .i64 b) v).run Try.prog w = .ok () w1 ∧ w1.cell? ⟨m, 1, none⟩ = some (.map (some bp)) ∧
      (Builtin.delete_ #[57, 3] ty #[.map (some bp), .int .i64 a]).run Try.prog w1 = .ok (.tuple #[]) w2 ∧ Bec A w (RmX m bf bp F (((lkP PLs).set b (L.map fun x => { x with f := b })).set a [])) w2 := by
  obtain ⟨C, g1, g2⟩ := rm_y h
  obtain ⟨w1, w2, r1, r2, r3, -, r5⟩ := mx_move (M := whM) (n2 := b) (y := (v, L.map fun x => { x with f := b })) g1 h1 h2 ha hb ty (fun {F w} k => ⟨k.1, Row.look k.2 rfl rfl (by simp) (all_move L b).symm⟩) rfl
  have hl := (RmX.box h).lt
  have hbp : m ≠ bp := fun e => by
    obtain ⟨es, clock, hb, _⟩ := MX.mp g1
    have hx := RmX.box h
    unfold Laid at hx
    rw [e, hb] at hx
    cases hx
  have hc1 : w1.cell? ⟨m, 1, none⟩ = some (.map (some bp)) := by
    rw [World.cell?_of_block (r2.grown.block m hl (by simpa using hbp)), (RmX.box h).cell]
    rfl
  have hL : L ≠ [] := hne _ (getL_mem h1)
  have hle : (MX whM rwT bp (delL (putL PLs b (v, L.map fun x => { x with f := b })) a)).le (PgT bp (((lkP PLs).set b (L.map fun x => { x with f := b })).set a [])) := fun {_ _} k => ⟨_, ⟨by rw [lkP_del, lkP_put], del_ne (put_ne hne (by simpa using hL))⟩, k⟩
  exact ⟨w1, w2, r1, hc1, r3, (g2 r5).imp fun {_ _} k => and_mono (Th.le.refl _) (and_mono (Th.le.refl _) hle) k⟩
set_option maxRecDepth 100000 in
set_option maxHeartbeats 8000000 in
theorem move_any (h : (RmT m l).In A w) (ha : okI a) (hb : okI b) (hd : MoveD l a b code l') :
    Calls Try.prog 16 #[.pointer (some ⟨m, 0, none⟩), .int .i64 a, .int .i64 b] w (RmP A w m l' code) := by
  have HR : Hid (Bec A w (RmT m l) w) := Bec.refl h
  have hma := mayF_any a
  have hmb := mayF_any b
  have hca := count_any h ha
  have hcb := count_any h hb
  rcases hd with ⟨h1, rfl, rfl⟩ | ⟨⟨h1, h2, h3⟩, h4, rfl, rfl⟩ | ⟨⟨h1, h2, h3⟩, h4, rfl, rfl⟩
  · by_cases k1 : mayFB a = true
    · rw [k1] at hma
      by_cases k2 : mayFB b = true
      · rw [k2] at hmb
        obtain rfl : a = b := by
          by_cases e : a = b
          · exact e
          · exact absurd ⟨k1, k2, e⟩ h1
        clear h1 k1 k2 h ha hb hca hcb
        go_enter Try.func16, Try.ntmps16
        go_wp2_with (go_at_call 24; refine (hma _).mono ?_; rintro e w1 ⟨rfl, rfl⟩)
        go_ret
        exact ⟨rfl, HR⟩
      · rw [show mayFB b = false by rw [← Bool.not_eq_true]; exact k2] at hmb
        clear h1 k1 k2 h ha hb hca hcb
        go_enter Try.func16, Try.ntmps16
        go_wp2_with fail
        refine (hma _).mono ?_
        rintro e w1 ⟨rfl, hw⟩
        obtain rfl := hw.symm
        clear hw
        go_wp2_with fail
        refine (hmb _).mono ?_
        rintro e w1 ⟨rfl, hw⟩
        obtain rfl := hw.symm
        clear hw
        go_wp2
        go_ret
        exact ⟨rfl, HR⟩
    · rw [show mayFB a = false by rw [← Bool.not_eq_true]; exact k1] at hma
      clear h1 k1 h ha hb hca hcb hmb
      go_enter Try.func16, Try.ntmps16
      go_wp2_with fail
      refine (hma _).mono ?_
      rintro e w1 ⟨rfl, hw⟩
      obtain rfl := hw.symm
      clear hw
      go_wp2
      go_ret
      exact ⟨rfl, HR⟩
  · rw [h1] at hma
    rw [h2] at hmb
    have hpos : (0 : Int) < ((ofR l' b).length : Int) := by
      have := List.length_pos_iff.2 h4
      omega
    clear h1 h2 h h4 ha hb hca
    go_enter Try.func16, Try.ntmps16
    go_wp2_with fail
    refine (hma _).mono ?_
    rintro e w1 ⟨rfl, hw⟩
    obtain rfl := hw.symm
    clear hw
    go_wp2_with fail
    refine (hmb _).mono ?_
    rintro e w1 ⟨rfl, hw⟩
    obtain rfl := hw.symm
    clear hw
    go_wp2_with fail
    refine hcb.mono ?_
    rintro e w1 ⟨rfl, hw⟩
    obtain rfl := hw.symm
    clear hw
    go_wp2
    go_ret
    exact ⟨rfl, HR⟩
  · rw [h1] at hma
    rw [h2] at hmb
    rw [h4, List.length_nil] at hcb
    by_cases h5 : ofR l a = []
    · rw [h5, List.length_nil] at hca
      rw [move_none h5 b]
      clear h1 h2 h h4 h5 ha hb
      go_enter Try.func16, Try.ntmps16
      go_wp2_with fail
      refine (hma _).mono ?_
      rintro e w1 ⟨rfl, hw⟩
      obtain rfl := hw.symm
      clear hw
      go_wp2_with fail
      refine (hmb _).mono ?_
      rintro e w1 ⟨rfl, hw⟩
      obtain rfl := hw.symm
      clear hw
      go_wp2_with fail
      refine hcb.mono ?_
      rintro e w1 ⟨rfl, hw⟩
      obtain rfl := hw.symm
      clear hw
      go_wp2_with fail
      refine hca.mono ?_
      rintro e w1 ⟨rfl, hw⟩
      obtain rfl := hw.symm
      clear hw
      go_wp2
      go_ret
      exact ⟨rfl, HR⟩
    · obtain ⟨⟨bf, bp⟩, hm, h⟩ := h
      simp only at h
      obtain ⟨D0, g1, g2⟩ := rm_y h
      obtain ⟨PLs, ⟨hpl, hne⟩, g3⟩ := g1
      have HY0 : Hid (Bec A w (RmY m bf bp (frF l) (MX whM rwT bp PLs)) w) := g2 (Bec.refl g3)
      have hlb : getL PLs b = none := (lkP_nil hne b).1 (by rw [hpl]; exact h4)
      obtain ⟨⟨v, L⟩, hla⟩ := Option.ne_none_iff_exists'.1 fun e => h5 (by rw [← hpl]; exact (lkP_nil hne a).2 e)
      have hL : ofR l a = L := by rw [← hpl]; unfold lkP; rw [hla]
      have HM : Hid (MayR l ∧ l.length ≤ 4096) := hm
      have hmv : MayR (moveR l a b) := move_may hm.1 a (by have := h2; unfold mayFB at this; simp at this; exact this.1) (by have := h2; unfold mayFB at this; simp at this; exact this.2)
      have HV : Hid (MayR (moveR l a b) ∧ (moveR l a b).length ≤ 4096) := ⟨hmv, by unfold moveR; rw [List.length_map]; exact hm.2⟩
      have HF : Hid (givF b L (frF l) = frF (moveR l a b)) := by rw [← hL]; exact giv_move hm.1 a b
      have HG : Hid (((lkP PLs).set b (L.map fun x => { x with f := b })).set a [] = ofR (moveR l a b)) := by show _ = _; rw [of_move h3 h4, hL, hpl]
      have hLm : ∀ x ∈ L, okI x.s ∧ okI x.p := fun x hx => by
        rw [← hL] at hx
        have hx2 := hm.1.2 x (of_mem.1 hx).1
        unfold Rw.may at hx2
        exact ⟨⟨by omega, by omega⟩, ⟨by omega, by omega⟩⟩
      have hLl : L.length ≤ 4096 := by rw [← hL]; exact Nat.le_trans (of_len l a) hm.2
      have HS : Hid ((∀ x ∈ L, okI x.s ∧ okI x.p) ∧ okI a ∧ okI b ∧ (∀ x ∈ PLs, x.2.2 ≠ []) ∧ getL PLs a = some (v, L) ∧ getL PLs b = none) := ⟨hLm, ha, hb, hne, hla, hlb⟩
      have HRow : Hid (∀ {F : Fr} {A : Nat → Prop} {W : World}, (RmY m bf bp F (MX whM rwT bp PLs)).In A W → Row rWh 0 W v L ∧ (Instr.lookup 57 (.map (some bp)) (.int .i64 a) false).run Try.prog W = .ok v W ∧ W.cell? ⟨m, 1, none⟩ = some (.map (some bp))) := fun {F A W} k => by
        obtain ⟨E, e1, -⟩ := rm_y k
        obtain ⟨E2, e2, -⟩ := mx_open e1 hla
        have e3 := get_wh (MX.mp e1) ha
        rw [hla] at e3
        exact ⟨e2.2, e3, by rw [(RmX.box k).cell]; rfl⟩
      rw [hL] at hca
      have hpos : ¬ ((L.length : Int) = 0) := by
        have := List.length_pos_iff.2 h5
        rw [hL] at this
        omega
      have hbeq : ((L.length : Int) == 0) = false := by simpa using hpos
      obtain ⟨A0, j1, -⟩ := HY0.out.next
      obtain ⟨r1, r2, r3⟩ := HRow.out j1
      obtain ⟨ao, cc, rfl⟩ := r1.form
      clear h1 h2 h h4 h5 ha hb g2 g3 hlb hla hL hm hmv hLm hpl hne r1 j1
      go_enter Try.func16, Try.ntmps16
      go_wp2_with fail
      refine (hma _).mono ?_
      rintro e w1 ⟨rfl, hw⟩
      obtain rfl := hw.symm
      clear hw
      go_wp2_with fail
      refine (hmb _).mono ?_
      rintro e w1 ⟨rfl, hw⟩
      obtain rfl := hw.symm
      clear hw
      go_wp2_with fail
      refine hcb.mono ?_
      rintro e w1 ⟨rfl, hw⟩
      obtain rfl := hw.symm
      clear hw
      go_wp2_with fail
      refine hca.mono ?_
      rintro e w1 ⟨rfl, hw⟩
      obtain rfl := hw.symm
      clear hw hca hcb
      have hl9 : L.length ≤ 9223372036854775807 := by omega
      go_wp2
      go_loopw [39] (fun iv wr => ∃ k : Nat, k ≤ L.length ∧ iv = .int .i64 k ∧ Hid (Bec A w (RmY m bf bp (givF b (L.take k) (frF l)) (MX whM rwT bp PLs)) wr)) (fun iv _ => L.length - (intOf iv).toNat)
      case atStart => exact ⟨0, Nat.zero_le _, rfl, HY0.out⟩
      case round =>
        obtain ⟨k, hk, rfl, HB⟩ := hrel
        obtain ⟨A1, k1, k2⟩ := HB.out.next
        obtain ⟨q1, q2, q3⟩ := HRow.out k1
        by_cases hkl : k < L.length
        · have hki : (k : Int) < (L.length : Int) := by omega
          have hk0 : (0 : Int) ≤ (k : Int) := by omega
          obtain ⟨g, rfl, _, _, hgl, _, _, hat⟩ := q1.at hkl
          obtain ⟨y0, y1⟩ := rWh.at hat
          simp only [show rWh.n = 2 from rfl, show rWh.zero = zR from rfl] at y0 y1
          have hx := HS.out.1 (L.getD k zR) (by rw [List.getD_eq_getElem?_getD, List.getElem?_eq_getElem hkl]; exact List.getElem_mem hkl)
          have hgv := giv_next b (frF l) hkl
          have hbw := new_below wr (.cells #[.int .i64 (L.getD k zR).s, .int .i64 (L.getD k zR).p] 28)
          have hgive := give_any (f := b) (in_below k1 hbw) hx.1 hx.2
          rw [hgv] at hgive
          unfold wv at hgive
          have HK : Hid (∀ {X : Th} {w' : World}, Bec A1 (wr.alloc (.cells #[.int .i64 (L.getD k zR).s, .int .i64 (L.getD k zR).p] 28)) X w' → Bec A w X w') := fun h => k2 (bec_from hbw h)
          generalize (L.getD k zR) = x at *
          clear k1 k2 q1 hat hx hgv hbw
          go_wp2_with fail
          refine hgive.mono ?_
          rintro e w3 ⟨rfl, HB3⟩
          go_wp2
          go_roundw
          case rel => exact ⟨k + 1, hkl, by go_num, HK.out HB3.out⟩
          case measure => simp only [intOf]; omega
        · obtain rfl : k = L.length := by omega
          rw [List.take_length, HF.out] at k1
          obtain ⟨w5, w6, p1, p2, p3, p4⟩ := move_yes (in_drew k1) HS.out.2.2.2.1 HS.out.2.2.2.2.1 HS.out.2.2.2.2.2 HS.out.2.1 HS.out.2.2.1 0
          obtain ⟨-, z2, z3⟩ := HRow.out (in_drew k1)
          have p3' : ∀ ty, (Builtin.delete_ #[57, 3] ty #[.map (some bp), .int .i64 a]).run Try.prog w5 = .ok (.tuple #[]) w6 := fun ty => p3
          rw [HG.out] at p4
          have HE : Hid (Bec A w (RmT m (moveR l a b)) w6) := rt_end (k2 (bec_drew p4)) HV.out
          clear k1 k2 q1 p3 p4 HB
          go_wp2
          go_region
          go_wp2
          go_ret
          exact ⟨rfl, HE⟩
end
end Go.Proofs.Ytdeaniigimmoaaa
/- '==' between two pages, between two pages of a space. -/
namespace Go.Proofs.Ytdeaniigimmoaaa
open Go.RowKit

theorem wh_run (n : Nat) (a b c d : Int) (w : World) : (Op.equalIn (n + 3) 28 (.agg #[.int .i64 a, .int .i64 b]) (.agg #[.int .i64 c, .int .i64 d])).run Try.prog w = .ok (a == c && b == d) w := by
  have hi : ∀ (n : Nat) (x y : Int) (w : World), (Op.equalIn (n + 1) 3 (.int .i64 x) (.int .i64 y)).run Try.prog w = .ok (x == y) w := fun n x y w => run_equalIn_int w n 3 .i64 .i64 x y Try.underlying3
  rw [run_equalIn_agg w (n + 2) _ _ _ (by kernel_rfl) (by kernel_rfl)]
  simp [go_sem, Program.fieldsOf, Try.underlying28, Op.eqFields, hi]
  by_cases h1 : a = c
  · by_cases h2 : b = d
    · simp [h1, h2]
    · simp [h1, h2]
  · simp [h1]
theorem eql_wh (a b c d : Int) (w : World) : (binOp .eql 28 (.agg #[.int .i64 a, .int .i64 b]) (.agg #[.int .i64 c, .int .i64 d])).run Try.prog w = .ok (.bool (a == c && b == d)) w := by
  rw [run_eql_struct, wh_run 9997]
  rfl
theorem neq_wh (a b c d : Int) (w : World) : (binOp .neq 28 (.agg #[.int .i64 a, .int .i64 b]) (.agg #[.int .i64 c, .int .i64 d])).run Try.prog w = .ok (.bool (!(a == c && b == d))) w := by
  rw [run_neq_struct, wh_run 9997]
  rfl
theorem neq_wh0 (a b : Int) (w : World) : (binOp .neq 28 (.agg #[.int .i64 a, .int .i64 b]) (.agg #[.int .i64 a, .int .i64 b])).run Try.prog w = .ok (.bool false) w := by
  rw [neq_wh]
  simp
theorem mpd_run (n : Nat) (a b c d : Int) (w : World) : (Op.equalIn (n + 3) 70 (.agg #[.int .i64 a, .int .i64 b]) (.agg #[.int .i64 c, .int .i64 d])).run Try.prog w = .ok (a == c && b == d) w := by
  have hi : ∀ (n : Nat) (x y : Int) (w : World), (Op.equalIn (n + 1) 3 (.int .i64 x) (.int .i64 y)).run Try.prog w = .ok (x == y) w := fun n x y w => run_equalIn_int w n 3 .i64 .i64 x y Try.underlying3
  rw [run_equalIn_agg w (n + 2) _ _ _ (by kernel_rfl) (by kernel_rfl)]
  simp [go_sem, Program.fieldsOf, Try.underlying70, Op.eqFields, hi]
  by_cases h1 : a = c
  · by_cases h2 : b = d
    · simp [h1, h2]
    · simp [h1, h2]
  · simp [h1]
theorem neq_mp0 (a b : Int) (w : World) : (binOp .neq 70 (.agg #[.int .i64 a, .int .i64 b]) (.agg #[.int .i64 a, .int .i64 b])).run Try.prog w = .ok (.bool false) w := by
  rw [run_neq_struct, mpd_run 9997]
  simp [Result.andThen]
end Go.Proofs.Ytdeaniigimmoaaa
/- The document's example. -/
namespace Go.Proofs.Ytdeaniigimmoaaa
open Go.RowKit

abbrev upA : List Rw := [⟨1, 0, 3⟩]
abbrev upB : List Rw := [⟨1, 0, 3⟩, ⟨2, 5, 3⟩]
abbrev upC : List Rw := [⟨1, 0, 4⟩, ⟨2, 5, 4⟩]
theorem up_1 : AddD [] 1 0 3 0 upA := Or.inr (Or.inr ⟨by simp [Rw.may], rfl, rfl, rfl⟩)
theorem up_2 : AddD upA 2 5 3 0 upB := Or.inr (Or.inr ⟨by simp [Rw.may], rfl, rfl, rfl⟩)
theorem up_3 : MoveD upB 3 4 0 upC := Or.inr (Or.inr ⟨⟨rfl, rfl, by omega⟩, rfl, rfl, rfl⟩)
/-- A call at a map that has come to be. -/
theorem Bec.rcall {w W : World} {m : Nat} {l l' : List Rw} {code : Int} {f : Nat} {args : Array Value} (h : Bec (fun _ => False) w (RmT m l) W)
    (k : ∀ F, (RmT m l).In F W → Calls Try.prog f args W (RmP F W m l' code)) : Calls Try.prog f args W fun e W' => e = .returned (errV code) ∧ Hid (Bec (fun _ => False) w (RmT m l') W') := by
  obtain ⟨G, h1, cl⟩ := h.next
  exact (k G h1).mono fun e w' hp => ⟨hp.1, cl hp.2⟩
set_option maxRecDepth 100000 in
set_option maxHeartbeats 8000000 in
theorem up_any (w : World) : Calls Try.prog 7 #[] w fun e w' => e = .returned (.bool true) ∧ Hid (Below w.heap.size w w') := by
  have hnew := new_any w
  go_enter Try.func7, Try.ntmps7
  go_wp2_with fail
  refine hnew.mono ?_
  rintro e w1 ⟨m, rfl, H1⟩
  have hc := H1.out.rcall fun F h => add_any (s := 1) (p := 0) (f := 3) h ⟨by omega, by omega⟩ ⟨by omega, by omega⟩ ⟨by omega, by omega⟩ (by decide) up_1
  unfold wv at hc
  clear hnew
  rw [errV0] at hc
  go_wp2_with fail
  refine hc.mono ?_
  rintro e w2 ⟨rfl, H2⟩
  have hd := H2.out.rcall fun F h => add_any (s := 2) (p := 5) (f := 3) h ⟨by omega, by omega⟩ ⟨by omega, by omega⟩ ⟨by omega, by omega⟩ (by decide) up_2
  unfold wv at hd
  clear hc H1
  rw [errV0] at hd
  go_wp2_with fail
  refine hd.mono ?_
  rintro e w3 ⟨rfl, H3⟩
  have hc := H3.out.rcall fun F h => move_any (a := 3) (b := 4) h ⟨by omega, by omega⟩ ⟨by omega, by omega⟩ up_3
  clear hd H2
  rw [errV0] at hc
  go_wp2_with fail
  refine hc.mono ?_
  rintro e w4 ⟨rfl, H4⟩
  obtain ⟨G, h4, -⟩ := H4.out.next
  have hd := of_any (f := 4) h4 ⟨by omega, by omega⟩
  rw [show ofR upC 4 = upC from rfl] at hd
  clear hc H3 h4
  go_wp2_with fail
  refine hd.mono ?_
  rintro e w5 ⟨a5, c5, rfl, hbec⟩
  obtain ⟨F5, -, HF5, -⟩ := hbec.out
  have hr : Row rWh 0 w5 (.slice a5 upC.length c5) upC := HF5.2
  obtain ⟨g, rfl, -, -, hg, -, -, h0⟩ := hr.at (k := 0) (by decide)
  obtain ⟨g', e', -, -, -, -, -, h1⟩ := hr.at (k := 1) (by decide)
  cases e'
  obtain ⟨x0, x1⟩ := rWh.at h0
  obtain ⟨x2, x3⟩ := rWh.at h1
  simp only [show rWh.n = 2 from rfl] at x0 x1 x2 x3
  have z0 : w5.cell? ⟨g, 0, none⟩ = some (.int .i64 1) := x0
  have z1 : w5.cell? ⟨g, 1, none⟩ = some (.int .i64 0) := x1
  have z2 : w5.cell? ⟨g, 2, none⟩ = some (.int .i64 2) := x2
  have z3 : w5.cell? ⟨g, 3, none⟩ = some (.int .i64 5) := x3
  have hq1 := fun w => eql_wh 1 0 1 0 w
  have hq2 := fun w => eql_wh 2 5 2 5 w
  have HE : Hid (Below w.heap.size w w5) := below_call' H4.out.frame hbec.out.frame
  clear hd hr h0 h1 x0 x1 x2 x3 hbec HF5 H4
  rw [show upC.length = 2 from rfl]
  go_wp2
  go_ret
  exact ⟨rfl, HE⟩
end Go.Proofs.Ytdeaniigimmoaaa
/- What the statements' pick answers. -/
namespace Go.Proofs.Ytdeaniigimmoaaa
open Go.RowKit

def pickN (c : Int) (n : Nat) : Nat := ((if c < 0 then -(c + 1) else c) % n).toNat
theorem pickN_lt (c : Int) (n : Nat) (h : 0 < n) : pickN c n < n := by
  unfold pickN
  have h1 := Int.emod_nonneg (if c < 0 then -(c + 1) else c) (show (n : Int) ≠ 0 by omega)
  have h2 := Int.emod_lt_of_pos (if c < 0 then -(c + 1) else c) (show (0 : Int) < n by omega)
  omega
theorem pickN_eq (c : Int) (n : Nat) (h : 0 < n) : ((pickN c n : Nat) : Int) = (if c < 0 then -(c + 1) else c) % n := by
  unfold pickN
  have h1 := Int.emod_nonneg (if c < 0 then -(c + 1) else c) (show (n : Int) ≠ 0 by omega)
  omega
set_option maxHeartbeats 400000 in
theorem pick_any (c : Int) (n : Nat) (w : World) (h1 : -9223372036854775808 ≤ c) (h2 : c ≤ 9223372036854775807) (hn : 0 < n) (hn' : n ≤ 1000) :
    Calls Try.prog 10 #[.int .i64 c, .int .i64 n] w fun e w' => e = .returned (.int .i64 (pickN c n)) ∧ w' = w := by
  have he := pickN_eq c n hn
  have HE : Hid _ := he
  clear he
  by_cases h0 : c < 0
  · obtain ⟨q, hq⟩ : ∃ q, -(c + 1) = q := ⟨_, rfl⟩
    have hq0 : 0 ≤ q := by omega
    have hn0 : ¬ ((n : Int) = 0) := by omega
    go_enter Try.func10, Try.ntmps10
    go_wp2
    go_ret
    exact ⟨ret_int (by rw [HE.out, if_pos h0, hq]), rfl⟩
  · go_enter Try.func10, Try.ntmps10
    go_wp2
    go_ret
    exact ⟨ret_int (by rw [HE.out, if_neg (by omega)]), rfl⟩
end Go.Proofs.Ytdeaniigimmoaaa
/- Arguments that are structs of plain cells, or lists of such: what a reading of them gives. -/
namespace Go.Proofs.Ytdeaniigimmoaaa
open Go.ChangeShapes Go.WideShapes Go.ChangeAt Go.RowKit Go.Deep

/-- The cells of a list of len things of k cells each, as they lie at ao. -/
def Lst {α : Type} (cells : α → List Value) (ok : α → Prop) (k : Nat) (W : World) (ao : Option Addr) (len : Nat) (D : Nat → α) : Prop :=
  len = 0 ∨ ∃ b off, ao = some ⟨b, off, none⟩ ∧ b < W.heap.size ∧ ∀ i, i < len → ok (D i) ∧ ∀ j, j < k → W.cell? ⟨b, off + i * k + j, none⟩ = (cells (D i))[j]?

theorem Lst.below {α : Type} {cells : α → List Value} {ok : α → Prop} {k : Nat} {W w' : World} {ao : Option Addr} {len : Nat} {D : Nat → α} (h : Lst cells ok k W ao len D) (hb : Below W.heap.size W w') : Lst cells ok k w' ao len D := by
  rcases h with h | ⟨b, off, e, hlt, h⟩
  · exact Or.inl h
  · refine Or.inr ⟨b, off, e, Nat.lt_of_lt_of_le hlt hb.size, fun i hi => ⟨(h i hi).1, fun j hj => ?_⟩⟩
    rw [hb.cell (p := ⟨b, off + i * k + j, none⟩) hlt]
    exact (h i hi).2 j hj

theorem Lst.at {α : Type} {cells : α → List Value} {ok : α → Prop} {k : Nat} {W : World} {ao : Option Addr} {len : Nat} {D : Nat → α} (h : Lst cells ok k W ao len D) {i : Nat} (hi : i < len) :
    ∃ b off, ao = some ⟨b, off, none⟩ ∧ b < W.heap.size ∧ ∀ i, i < len → ok (D i) ∧ ∀ j, j < k → W.cell? ⟨b, off + i * k + j, none⟩ = (cells (D i))[j]? := by
  rcases h with h | h
  · omega
  · exact h

section
variable {H : Type} {enc : TypeId × Value → H} {P : Program} {w : World}

theorem open_list {α : Type} (dflt : α) (cells : α → List Value) (ok : α → Prop) (k : Nat) {t e : TypeId} (ht : P.underlying t = some (.slice e)) (ce : P.cellsOf e = k) (hk : 0 < k) (hlen : ∀ d, (cells d).length = k)
    (hopen : ∀ {fuel : Nat} {cs : List Value} {x : DataW H × List MemPlace}, DataW.trod enc P w 0 (fun _ => true) true fuel e cs = some x → cs.length = k → ∃ d, cs = cells d ∧ ok d)
    {r : Reach} {b0 : Nat} {v : Value} {d : DataW H} {ps : List MemPlace} (hval : Value.okWide P w r b0 t v) (hd : DataW.Trod enc P w 0 (fun _ => true) true t v d ps) :
    ∃ ao len cap D, v = .slice ao len cap ∧ len ≤ maxLen ∧ Lst cells ok k w ao len D := by
  obtain ⟨a0, len0, cap0, rfl⟩ := okWide_slice ht hval
  obtain ⟨fuel, hf⟩ := hd
  rcases open_slice ht hf with ⟨h0, _⟩ | ⟨a, len, cap, m, n, D, Pl, h0, hb, hl, hm, hmm, hx, hall⟩
  · simp [Value.cells] at h0
    obtain ⟨rfl, rfl, rfl⟩ := h0
    exact ⟨none, 0, 0, fun _ => dflt, rfl, Nat.zero_le _, Or.inl rfl⟩
  · simp [Value.cells] at h0
    obtain ⟨rfl, rfl, rfl⟩ := h0
    simp only [if_true] at hmm
    subst hmm
    by_cases hz : len0 = 0
    · exact ⟨some a, len0, m, fun _ => dflt, rfl, Nat.le_trans hl hm, Or.inl hz⟩
    have each : ∀ i, i < m → ∃ x : α, ok x ∧ ∀ j, j < k → w.cell? (a.add (i * k + j)) = (cells x)[j]? := by
      intro i hi
      obtain ⟨cs', h1, h2⟩ := hall i hi
      rw [ce] at h1
      obtain ⟨_, hlen', hcell⟩ := World.cells?_some h1
      obtain ⟨x, rfl, hok⟩ := hopen h2 hlen'
      exact ⟨x, hok, fun j hj => by rw [← add_add]; exact hcell j hj⟩
    obtain ⟨E, hE⟩ := @choose_lt α ⟨dflt⟩ m _ each
    have h00 := (hE 0 (by omega)).2 0 hk
    simp only [Nat.zero_mul, Nat.add_zero] at h00
    have ha : a.spot = none := by
      have hn : (cells (E 0))[0]? ≠ none := by
        intro q
        rw [List.getElem?_eq_none_iff, hlen] at q
        omega
      cases hs : a.spot with
      | none => rfl
      | some s =>
        exfalso
        apply hn
        rw [← h00]
        show World.cell? w (a.add 0) = none
        simp only [Addr.add, if_true, World.cell?]
        split
        · simp [hs]
        · rfl
    obtain ⟨b, off, sp⟩ := a
    simp only at ha
    subst ha
    have hadd : ∀ j, (⟨b, off, none⟩ : Addr).add j = ⟨b, off + j, none⟩ := fun j => Addr.add_lit _ _ _
    refine ⟨some ⟨b, off, none⟩, len0, m, E, rfl, Nat.le_trans hl hm, Or.inr ⟨b, off, rfl, ?_, fun i hi => ⟨(hE i (by omega)).1, fun j hj => ?_⟩⟩⟩
    · obtain ⟨u, hu⟩ : ∃ u, (cells (E 0))[0]? = some u := ⟨_, List.getElem?_eq_getElem (by rw [hlen]; exact hk)⟩
      rw [hu] at h00
      exact block_lt_of_cell h00
    · rw [Nat.add_assoc, ← hadd]
      exact (hE i (by omega)).2 j hj
end
end Go.Proofs.Ytdeaniigimmoaaa
/- QWd: a struct api.Where as it lies in cells, and what a reading of it gives. -/
namespace Go.Proofs.Ytdeaniigimmoaaa
open Go.ChangeShapes Go.WideShapes Go.ChangeAt Go.RowKit Go.Deep
set_option maxRecDepth 100000

structure QWd where
  s : Int
  p : Int
def QWd.zero : QWd := ⟨0, 0⟩
def QWd.cells (d : QWd) : List Value := [.int .i64 d.s, .int .i64 d.p]
def QWd.ok (d : QWd) : Prop := (-9223372036854775808 ≤ d.s ∧ d.s ≤ 9223372036854775807) ∧ (-9223372036854775808 ≤ d.p ∧ d.p ≤ 9223372036854775807)
theorem QWd.len (d : QWd) : d.cells.length = 2 := rfl
theorem cellsOf_QWd : Try.prog.cellsOf 28 = 2 := by kernel_rfl

section
variable {H : Type} {enc : TypeId × Value → H} {w : World} {base : Nat} {spare : Nat → Bool} {held : Bool}
theorem trod_QWd {fuel : Nat} {cs : List Value} {x : DataW H × List MemPlace} (hf : DataW.trod enc Try.prog w base spare held fuel 28 cs = some x) (hl : cs.length = 2) : ∃ d : QWd, cs = d.cells ∧ d.ok := by
  obtain ⟨xs, n, _, hx, _, hlen, h⟩ := DataW.trod_struct Try.underlying28 hf
  match cs, hl, xs, hlen with
  | [c0, c1], _, [x0, x1], _ =>
    have z0 : Try.prog.cellsOf 3 = 1 := by kernel_rfl
    have h0 := h 0 _ rfl
    simp [z0] at h0
    obtain ⟨a0, e0, _, g0⟩ := DataW.trod_int Try.underlying3 h0
    simp only [List.cons.injEq, and_true] at e0
    subst e0
    have h1 := h 1 _ rfl
    simp [z0] at h1
    obtain ⟨a1, e1, _, g1⟩ := DataW.trod_int Try.underlying3 h1
    simp only [List.cons.injEq, and_true] at e1
    subst e1
    exact ⟨⟨a0, a1⟩, rfl, ⟨(bounds_i64 g0), (bounds_i64 g1)⟩⟩

theorem open_QWd {r : Reach} {b0 : Nat} {v : Value} {d : DataW H} {ps : List MemPlace} (hval : Value.okWide Try.prog w r b0 28 v) (hd : DataW.Trod enc Try.prog w base spare held 28 v d ps) :
    ∃ a : QWd, v = .agg a.cells.toArray ∧ a.ok := by
  obtain ⟨cs, rfl, hs⟩ := okWide_struct Try.underlying28 hval
  rw [cellsOf_QWd] at hs
  obtain ⟨l⟩ := cs
  obtain ⟨fuel, hf⟩ := hd
  obtain ⟨a, e, h⟩ := trod_QWd (cs := l) (by simpa [Value.cells] using hf) (by simpa using hs)
  exact ⟨a, by rw [e], h⟩
end

theorem QWd.cells_eq (d : QWd) : d.cells = [.int .i64 d.s, .int .i64 d.p] := rfl
theorem QWd.one (d : QWd) : ∀ u ∈ d.cells, u.oneCell' = true := by
  intro u hu
  rw [QWd.cells_eq] at hu
  simp only [List.mem_cons, List.not_mem_nil, or_false] at hu
  rcases hu with rfl | rfl <;> rfl
def rQWd : Rec QWd := ⟨28, 2, 16, QWd.zero, QWd.cells, QWd.len, by decide, QWd.one⟩
theorem QWd.kin : Kin Try.prog rQWd 49 := Kin.of (z := .agg #[.int .i64 0, .int .i64 0]) Try.underlying49 (by kernel_rfl) rfl
theorem QWd.at {w : World} {b o : Nat} {d : QWd} (h : At rQWd w b o d) : w.cell? ⟨b, o, none⟩ = some (.int .i64 d.s) ∧ w.cell? ⟨b, o + 1, none⟩ = some (.int .i64 d.p) :=
  ⟨h 0 (by decide), h 1 (by decide)⟩
def QWd.arr (d : QWd) : Array Value := #[.int .i64 d.s, .int .i64 d.p]
theorem QWd.laid {w : World} {b : Nat} {d : QWd} (h : Laid w b 28 d.arr) : w.cell? ⟨b, 0, none⟩ = some (.int .i64 d.s) ∧ w.cell? ⟨b, 1, none⟩ = some (.int .i64 d.p) :=
  ⟨h.cell 0, h.cell 1⟩
theorem QWd.lst {w W : World} {ao : Option Addr} {len : Nat} {D : Nat → QWd} (h : Lst QWd.cells QWd.ok 2 w ao len D) (hb : Below w.heap.size w W) {i : Nat} (hi : i < len) : ∃ b off, ao = some ⟨b, off, none⟩ ∧ b < w.heap.size ∧ (D i).ok ∧ At rQWd W b (off + i * 2) (D i) := by
  obtain ⟨b, off, e, hlt, hall⟩ := h.at hi
  obtain ⟨hok, hc⟩ := hall i hi
  exact ⟨b, off, e, hlt, hok, fun j hj => ((bcell hb).1 b _ hlt).trans (hc j hj)⟩
end Go.Proofs.Ytdeaniigimmoaaa
/- QDd: a struct paviorlaw11.Deed as it lies in cells, and what a reading of it gives. -/
namespace Go.Proofs.Ytdeaniigimmoaaa
open Go.ChangeShapes Go.WideShapes Go.ChangeAt Go.RowKit Go.Deep
set_option maxRecDepth 100000

structure QDd where
  what : Int
  frame : Int
  to_ : Int
  w : QWd
def QDd.zero : QDd := ⟨0, 0, 0, QWd.zero⟩
def QDd.cells (d : QDd) : List Value := [.int .i64 d.what] ++ [.int .i64 d.frame] ++ [.int .i64 d.to_] ++ QWd.cells d.w
def QDd.ok (d : QDd) : Prop := (-9223372036854775808 ≤ d.what ∧ d.what ≤ 9223372036854775807) ∧ (-9223372036854775808 ≤ d.frame ∧ d.frame ≤ 9223372036854775807) ∧ (-9223372036854775808 ≤ d.to_ ∧ d.to_ ≤ 9223372036854775807) ∧ QWd.ok d.w
theorem QDd.len (d : QDd) : d.cells.length = 5 := by simp [QDd.cells, QWd.len]
theorem cellsOf_QDd : Try.prog.cellsOf 30 = 5 := by kernel_rfl

section
variable {H : Type} {enc : TypeId × Value → H} {w : World} {base : Nat} {spare : Nat → Bool} {held : Bool}
theorem trod_QDd {fuel : Nat} {cs : List Value} {x : DataW H × List MemPlace} (hf : DataW.trod enc Try.prog w base spare held fuel 30 cs = some x) (hl : cs.length = 5) : ∃ d : QDd, cs = d.cells ∧ d.ok := by
  obtain ⟨xs, n, _, hx, _, hlen, h⟩ := DataW.trod_struct Try.underlying30 hf
  match cs, hl, xs, hlen with
  | [c0, c1, c2, c3, c4], _, [x0, x1, x2, x3], _ =>
    have z0 : Try.prog.cellsOf 28 = 2 := by kernel_rfl
    have z1 : Try.prog.cellsOf 3 = 1 := by kernel_rfl
    have h0 := h 0 _ rfl
    simp [z1] at h0
    obtain ⟨a0, e0, _, g0⟩ := DataW.trod_int Try.underlying3 h0
    simp only [List.cons.injEq, and_true] at e0
    subst e0
    have h1 := h 1 _ rfl
    simp [z1] at h1
    obtain ⟨a1, e1, _, g1⟩ := DataW.trod_int Try.underlying3 h1
    simp only [List.cons.injEq, and_true] at e1
    subst e1
    have h2 := h 2 _ rfl
    simp [z1] at h2
    obtain ⟨a2, e2, _, g2⟩ := DataW.trod_int Try.underlying3 h2
    simp only [List.cons.injEq, and_true] at e2
    subst e2
    have h3 := h 3 _ rfl
    simp [z0] at h3
    obtain ⟨a3, e3, g3⟩ := trod_QWd h3 rfl
    refine ⟨⟨a0, a1, a2, a3⟩, ?_, ⟨(bounds_i64 g0), (bounds_i64 g1), (bounds_i64 g2), g3⟩⟩
    simp only [QDd.cells, ← e3, List.cons_append, List.nil_append]

theorem open_QDd {r : Reach} {b0 : Nat} {v : Value} {d : DataW H} {ps : List MemPlace} (hval : Value.okWide Try.prog w r b0 30 v) (hd : DataW.Trod enc Try.prog w base spare held 30 v d ps) :
    ∃ a : QDd, v = .agg a.cells.toArray ∧ a.ok := by
  obtain ⟨cs, rfl, hs⟩ := okWide_struct Try.underlying30 hval
  rw [cellsOf_QDd] at hs
  obtain ⟨l⟩ := cs
  obtain ⟨fuel, hf⟩ := hd
  obtain ⟨a, e, h⟩ := trod_QDd (cs := l) (by simpa [Value.cells] using hf) (by simpa using hs)
  exact ⟨a, by rw [e], h⟩
end

theorem QDd.cells_eq (d : QDd) : d.cells = [.int .i64 d.what, .int .i64 d.frame, .int .i64 d.to_, .int .i64 d.w.s, .int .i64 d.w.p] := rfl
theorem QDd.one (d : QDd) : ∀ u ∈ d.cells, u.oneCell' = true := by
  intro u hu
  rw [QDd.cells_eq] at hu
  simp only [List.mem_cons, List.not_mem_nil, or_false] at hu
  rcases hu with rfl | rfl | rfl | rfl | rfl <;> rfl
def rQDd : Rec QDd := ⟨30, 5, 40, QDd.zero, QDd.cells, QDd.len, by decide, QDd.one⟩
theorem QDd.kin : Kin Try.prog rQDd 22 := Kin.of (z := .agg #[.int .i64 0, .int .i64 0, .int .i64 0, .int .i64 0, .int .i64 0]) Try.underlying22 (by kernel_rfl) rfl
theorem QDd.at {w : World} {b o : Nat} {d : QDd} (h : At rQDd w b o d) : w.cell? ⟨b, o, none⟩ = some (.int .i64 d.what) ∧ w.cell? ⟨b, o + 1, none⟩ = some (.int .i64 d.frame) ∧ w.cell? ⟨b, o + 2, none⟩ = some (.int .i64 d.to_) ∧ w.cell? ⟨b, o + 3, none⟩ = some (.int .i64 d.w.s) ∧ w.cell? ⟨b, o + 4, none⟩ = some (.int .i64 d.w.p) :=
  ⟨h 0 (by decide), h 1 (by decide), h 2 (by decide), h 3 (by decide), h 4 (by decide)⟩
def QDd.arr (d : QDd) : Array Value := #[.int .i64 d.what, .int .i64 d.frame, .int .i64 d.to_, .int .i64 d.w.s, .int .i64 d.w.p]
theorem QDd.laid {w : World} {b : Nat} {d : QDd} (h : Laid w b 30 d.arr) : w.cell? ⟨b, 0, none⟩ = some (.int .i64 d.what) ∧ w.cell? ⟨b, 1, none⟩ = some (.int .i64 d.frame) ∧ w.cell? ⟨b, 2, none⟩ = some (.int .i64 d.to_) ∧ w.cell? ⟨b, 3, none⟩ = some (.int .i64 d.w.s) ∧ w.cell? ⟨b, 4, none⟩ = some (.int .i64 d.w.p) :=
  ⟨h.cell 0, h.cell 1, h.cell 2, h.cell 3, h.cell 4⟩
theorem QDd.lst {w W : World} {ao : Option Addr} {len : Nat} {D : Nat → QDd} (h : Lst QDd.cells QDd.ok 5 w ao len D) (hb : Below w.heap.size w W) {i : Nat} (hi : i < len) : ∃ b off, ao = some ⟨b, off, none⟩ ∧ b < w.heap.size ∧ (D i).ok ∧ At rQDd W b (off + i * 5) (D i) := by
  obtain ⟨b, off, e, hlt, hall⟩ := h.at hi
  obtain ⟨hok, hc⟩ := hall i hi
  exact ⟨b, off, e, hlt, hok, fun j hj => ((bcell hb).1 b _ hlt).trans (hc j hj)⟩
end Go.Proofs.Ytdeaniigimmoaaa
/- The contracts of slices.Sorted(maps.Keys(m)) at this seat's numbers, in plain words: laid by tools/shelf.sh. -/
namespace Go.Proofs
open Go.Shelf
def Try.keysA_ren : Go.Shelf.Ren := ⟨fun | 7 => 34 | 10 => 44 | n => n, fun | 23 => 57 | 26 => 3 | 3 => 49 | 28 => 73 | 0 => 0 | 27 => 72 | 33 => 60 | 4 => 4 | n => n, fun | n => n⟩
theorem Try.keysA : Go.Proofs.SlLaysZI.n7 Try.prog Try.keysA_ren := {
  mixed := by kernel_rfl
  f7 := ⟨Try.f34.name, by decide, Try.func34.trans (congrArg some (by kernel_rfl))⟩
  f10 := ⟨Try.f44.name, by decide, Try.func44.trans (congrArg some (by kernel_rfl))⟩
  t0 := Try.underlying0
  a0 := Try.isAgg0
  z0 := Try.sizeOf0
  v0 := Try.zeroValue0
  t4 := Try.underlying4
  a4 := Try.isAgg4
  z4 := Try.sizeOf4
  v4 := Try.zeroValue4
  t23 := Try.underlying57
  a23 := Try.isAgg57
  z23 := Try.sizeOf57
  v23 := Try.zeroValue57
  t26 := Try.underlying3
  a26 := Try.isAgg3
  z26 := Try.sizeOf3
  v26 := Try.zeroValue3
  t27 := Try.underlying72
  a27 := Try.isAgg72
  z27 := Try.sizeOf72
  v27 := Try.zeroValue72
  t28 := Try.underlying73
  a28 := Try.isAgg73
  z28 := Try.sizeOf73
  v28 := Try.zeroValue73
  t33 := Try.underlying60
  a33 := Try.isAgg60
  z33 := Try.sizeOf60
  v33 := Try.zeroValue60 }
def Try.keysB_ren : Go.Shelf.Ren := ⟨fun | 7 => 36 | 10 => 45 | n => n, fun | 23 => 76 | 26 => 3 | 3 => 3 | 28 => 73 | 0 => 0 | 27 => 72 | 33 => 60 | 4 => 4 | n => n, fun | n => n⟩
theorem Try.keysB : Go.Proofs.SlLaysZI.n7 Try.prog Try.keysB_ren := {
  mixed := by kernel_rfl
  f7 := ⟨Try.f36.name, by decide, Try.func36.trans (congrArg some (by kernel_rfl))⟩
  f10 := ⟨Try.f45.name, by decide, Try.func45.trans (congrArg some (by kernel_rfl))⟩
  t0 := Try.underlying0
  a0 := Try.isAgg0
  z0 := Try.sizeOf0
  v0 := Try.zeroValue0
  t4 := Try.underlying4
  a4 := Try.isAgg4
  z4 := Try.sizeOf4
  v4 := Try.zeroValue4
  t23 := Try.underlying76
  a23 := Try.isAgg76
  z23 := Try.sizeOf76
  v23 := Try.zeroValue76
  t26 := Try.underlying3
  a26 := Try.isAgg3
  z26 := Try.sizeOf3
  v26 := Try.zeroValue3
  t27 := Try.underlying72
  a27 := Try.isAgg72
  z27 := Try.sizeOf72
  v27 := Try.zeroValue72
  t28 := Try.underlying73
  a28 := Try.isAgg73
  z28 := Try.sizeOf73
  v28 := Try.zeroValue73
  t33 := Try.underlying60
  a33 := Try.isAgg60
  z33 := Try.sizeOf60
  v33 := Try.zeroValue60 }
def Try.sortedA_ren : Go.Shelf.Ren := ⟨fun | 6 => 33 | 8 => 42 | 9 => 43 | 11 => 49 | 13 => 51 | 12 => 50 | 23 => 62 | 24 => 63 | 14 => 53 | 15 => 54 | 16 => 55 | 17 => 56 | 18 => 57 | 19 => 58 | 20 => 59 | 21 => 60 | 22 => 61 | 25 => 64 | 26 => 65 | 27 => 66 | 28 => 67 | 29 => 68 | 30 => 47 | 31 => 69 | n => n, fun | 26 => 3 | 28 => 73 | 24 => 47 | 0 => 0 | 3 => 3 | 37 => 79 | 48 => 98 | 50 => 100 | 4 => 4 | 40 => 91 | 39 => 90 | 45 => 63 | 5 => 5 | 9 => 9 | 51 => 101 | 55 => 105 | 57 => 107 | 58 => 108 | 33 => 60 | n => n, fun | n => n⟩
theorem Try.sortedA : Go.Proofs.SlLaysZI.n6 Try.prog Try.sortedA_ren := {
  mixed := by kernel_rfl
  f6 := ⟨Try.f33.name, by decide, Try.func33.trans (congrArg some (by kernel_rfl))⟩
  f8 := ⟨Try.f42.name, by decide, Try.func42.trans (congrArg some (by kernel_rfl))⟩
  f11 := ⟨Try.f49.name, by decide, Try.func49.trans (congrArg some (by kernel_rfl))⟩
  t0 := Try.underlying0
  a0 := Try.isAgg0
  z0 := Try.sizeOf0
  v0 := Try.zeroValue0
  t24 := Try.underlying47
  a24 := Try.isAgg47
  z24 := Try.sizeOf47
  v24 := Try.zeroValue47
  t26 := Try.underlying3
  a26 := Try.isAgg3
  z26 := Try.sizeOf3
  v26 := Try.zeroValue3
  t28 := Try.underlying73
  a28 := Try.isAgg73
  z28 := Try.sizeOf73
  v28 := Try.zeroValue73
  i26 := by kernel_rfl }
def Try.sortA_ren : Go.Shelf.Ren := ⟨fun | 5 => 43 | 8 => 51 | 7 => 50 | 19 => 62 | 20 => 63 | 10 => 53 | 11 => 54 | 12 => 55 | 13 => 56 | 14 => 57 | 15 => 58 | 16 => 59 | 17 => 60 | 18 => 61 | 30 => 64 | 31 => 65 | 32 => 66 | 33 => 67 | 34 => 68 | 35 => 47 | 40 => 69 | n => n, fun | 23 => 47 | 25 => 3 | 3 => 3 | 32 => 79 | 22 => 47 | 0 => 0 | 44 => 98 | 46 => 100 | 4 => 4 | 36 => 91 | 35 => 90 | 41 => 63 | 5 => 5 | 9 => 9 | 53 => 101 | 57 => 105 | 63 => 107 | 64 => 108 | n => n, fun | n => n⟩
theorem Try.sortA : Go.Proofs.SlLaysM.n5 Try.prog Try.sortA_ren := {
  mixed := by kernel_rfl
  f5 := ⟨Try.f43.name, by decide, Try.func43.trans (congrArg some (by kernel_rfl))⟩
  f7 := ⟨Try.f50.name, by decide, Try.func50.trans (congrArg some (by kernel_rfl))⟩
  f8 := Try.func51.trans (congrArg some (by kernel_rfl))
  f10 := ⟨Try.f53.name, by decide, Try.func53.trans (congrArg some (by kernel_rfl))⟩
  f11 := ⟨Try.f54.name, by decide, Try.func54.trans (congrArg some (by kernel_rfl))⟩
  f12 := ⟨Try.f55.name, by decide, Try.func55.trans (congrArg some (by kernel_rfl))⟩
  f13 := ⟨Try.f56.name, by decide, Try.func56.trans (congrArg some (by kernel_rfl))⟩
  f14 := ⟨Try.f57.name, by decide, Try.func57.trans (congrArg some (by kernel_rfl))⟩
  f15 := ⟨Try.f58.name, by decide, Try.func58.trans (congrArg some (by kernel_rfl))⟩
  f16 := ⟨Try.f59.name, by decide, Try.func59.trans (congrArg some (by kernel_rfl))⟩
  f17 := ⟨Try.f60.name, by decide, Try.func60.trans (congrArg some (by kernel_rfl))⟩
  f18 := ⟨Try.f61.name, by decide, Try.func61.trans (congrArg some (by kernel_rfl))⟩
  f19 := Try.func62.trans (congrArg some (by kernel_rfl))
  f20 := Try.func63.trans (congrArg some (by kernel_rfl))
  f30 := ⟨Try.f64.name, by decide, Try.func64.trans (congrArg some (by kernel_rfl))⟩
  f31 := Try.func65.trans (congrArg some (by kernel_rfl))
  f32 := Try.func66.trans (congrArg some (by kernel_rfl))
  f33 := ⟨Try.f67.name, by decide, Try.func67.trans (congrArg some (by kernel_rfl))⟩
  f34 := ⟨Try.f68.name, by decide, Try.func68.trans (congrArg some (by kernel_rfl))⟩
  f35 := ⟨Try.f47.name, by decide, Try.func47.trans (congrArg some (by kernel_rfl))⟩
  f40 := ⟨Try.f69.name, by decide, Try.func69.trans (congrArg some (by kernel_rfl))⟩
  t0 := Try.underlying0
  a0 := Try.isAgg0
  z0 := Try.sizeOf0
  v0 := Try.zeroValue0
  t3 := Try.underlying3
  a3 := Try.isAgg3
  z3 := Try.sizeOf3
  v3 := Try.zeroValue3
  t4 := Try.underlying4
  a4 := Try.isAgg4
  z4 := Try.sizeOf4
  v4 := Try.zeroValue4
  t5 := Try.underlying5
  a5 := Try.isAgg5
  z5 := Try.sizeOf5
  v5 := Try.zeroValue5
  t9 := Try.underlying9
  a9 := Try.isAgg9
  z9 := Try.sizeOf9
  v9 := Try.zeroValue9
  t22 := Try.underlying47
  a22 := Try.isAgg47
  z22 := Try.sizeOf47
  v22 := Try.zeroValue47
  t23 := Try.underlying47
  a23 := Try.isAgg47
  z23 := Try.sizeOf47
  v23 := Try.zeroValue47
  t25 := Try.underlying3
  a25 := Try.isAgg3
  z25 := Try.sizeOf3
  v25 := Try.zeroValue3
  t32 := Try.underlying79
  a32 := Try.isAgg79
  z32 := Try.sizeOf79
  v32 := Try.zeroValue79
  t35 := Try.underlying90
  a35 := Try.isAgg90
  z35 := Try.sizeOf90
  v35 := Try.zeroValue90
  t36 := Try.underlying91
  a36 := Try.isAgg91
  z36 := Try.sizeOf91
  v36 := Try.zeroValue91
  t41 := Try.underlying63
  a41 := Try.isAgg63
  z41 := Try.sizeOf63
  v41 := Try.zeroValue63
  t44 := Try.underlying98
  a44 := Try.isAgg98
  z44 := Try.sizeOf98
  v44 := Try.zeroValue98
  t46 := Try.underlying100
  a46 := Try.isAgg100
  z46 := Try.sizeOf100
  v46 := Try.zeroValue100
  t53 := Try.underlying101
  a53 := Try.isAgg101
  z53 := Try.sizeOf101
  v53 := Try.zeroValue101
  t57 := Try.underlying105
  a57 := Try.isAgg105
  z57 := Try.sizeOf105
  v57 := Try.zeroValue105
  t63 := Try.underlying107
  a63 := Try.isAgg107
  z63 := Try.sizeOf107
  v63 := Try.zeroValue107
  t64 := Try.underlying108
  a64 := Try.isAgg108
  z64 := Try.sizeOf108
  v64 := Try.zeroValue108 }
end Go.Proofs
