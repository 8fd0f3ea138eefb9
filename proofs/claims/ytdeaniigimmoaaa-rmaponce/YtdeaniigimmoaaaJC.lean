/- Own texts, joined: QSml, QGive, QTake, QClo, QIns, QApi, QSrch. -/
import Derived.Test.YtdeaniigimmoaaaJB
import Derived.Shelf.SlMaps.Clone
import Derived.Test.YtdeaniigimmoaaaJA
import Derived.Lib.Slices
import Derived.Deep.RegionLaw
import Derived.Lib.Overlaps
import Derived.Lib.JoinLaws
import Derived.Laws.Externs
import Derived.Lib.Walk
import Derived.Shelf.Abstract
/- mayFrame, mayPage, inOrder; New. -/
namespace Go.Proofs.Ytdeaniigimmoaaa
open Go.RowKit

theorem new_below (w : World) (o : Obj) : Below w.heap.size w (w.alloc o) := (Below.refl _ _).alloc (Nat.le_refl _) _
def mayFB (f : Int) : Bool := decide (0 ≤ f) && decide (f < 512)
set_option maxHeartbeats 400000 in
theorem mayF_any (f : Int) (w : World) : Calls Try.prog 24 #[.int .i64 f] w fun e w' => e = .returned (.bool (mayFB f)) ∧ w' = w := by
  by_cases h1 : 0 ≤ f
  · rw [show mayFB f = decide (f < 512) by simp [mayFB, h1]]
    go_enter Try.func24, Try.ntmps24
    go_wp2
    go_ret
    exact ⟨rfl, rfl⟩
  · rw [show mayFB f = false by simp [mayFB, h1]]
    go_enter Try.func24, Try.ntmps24
    go_wp2
    go_ret
    exact ⟨rfl, rfl⟩
def mayPB (s p : Int) : Bool := decide (1 ≤ s) && decide (s ≤ 255) && decide (0 ≤ p) && decide (p < 4096)
set_option maxHeartbeats 1000000 in
theorem mayP_any (s p : Int) (w : World) : Calls Try.prog 25 #[wv s p] w fun e w' => e = .returned (.bool (mayPB s p)) ∧ Below w.heap.size w w' := by
  have HB : Hid (Below w.heap.size w (w.alloc (.cells #[.int .i64 s, .int .i64 p] 28))) := new_below _ _
  unfold wv
  by_cases h1 : 1 ≤ s
  · by_cases h2 : s ≤ 255
    · by_cases h3 : 0 ≤ p
      · rw [show mayPB s p = decide (p < 4096) by simp [mayPB, h1, h2, h3]]
        go_enter Try.func25, Try.ntmps25
        go_wp2
        go_ret
        exact ⟨rfl, HB.out⟩
      · rw [show mayPB s p = false by simp [mayPB, h3]]
        go_enter Try.func25, Try.ntmps25
        go_wp2
        go_ret
        exact ⟨rfl, HB.out⟩
    · rw [show mayPB s p = false by simp [mayPB, h2]]
      go_enter Try.func25, Try.ntmps25
      go_wp2
      go_ret
      exact ⟨rfl, HB.out⟩
  · rw [show mayPB s p = false by simp [mayPB, h1]]
    go_enter Try.func25, Try.ntmps25
    go_wp2
    go_ret
    exact ⟨rfl, HB.out⟩
theorem may_iff (f s p : Int) : (mayFB f = true ∧ mayPB s p = true) ↔ (Rw.mk s p f).may := by
  simp only [mayFB, mayPB, Rw.may, Bool.and_eq_true, decide_eq_true_eq]
  omega

def cmpI (x y : Int) : Int := if x < y then -1 else if y < x then 1 else 0
set_option maxHeartbeats 1000000 in
theorem cmp_any (x y : Int) (w : World) : Calls Try.prog 39 #[.int .i64 x, .int .i64 y] w fun e w' => e = .returned (.int .i64 (cmpI x y)) ∧ w' = w := by
  have hN : ∀ (z : Int) (w : World), Calls Try.prog 47 #[.int .i64 z] w fun e w' => e = .returned (.bool false) ∧ w' = w := fun z w => by
    go_enter Try.func47, Try.ntmps47
    go_wp2
    go_ret
    exact ⟨rfl, rfl⟩
  unfold cmpI
  by_cases h1 : x < y
  · rw [if_pos h1]
    go_enter Try.func39, Try.ntmps39
    go_wp2_with (go_at_call 47; refine (hN _ _).mono ?_; rintro e w1 ⟨rfl, rfl⟩)
    go_ret
    exact ⟨rfl, rfl⟩
  · rw [if_neg h1]
    by_cases h2 : y < x
    · rw [if_pos h2]
      go_enter Try.func39, Try.ntmps39
      go_wp2_with (go_at_call 47; refine (hN _ _).mono ?_; rintro e w1 ⟨rfl, rfl⟩)
      go_ret
      exact ⟨rfl, rfl⟩
    · rw [if_neg h2]
      go_enter Try.func39, Try.ntmps39
      go_wp2_with (go_at_call 47; refine (hN _ _).mono ?_; rintro e w1 ⟨rfl, rfl⟩)
      go_ret
      exact ⟨rfl, rfl⟩
def orI (x y : Int) : Int := if x = 0 then y else x
set_option maxHeartbeats 1000000 in
theorem or_any (x y : Int) (b : Nat) (w : World) (h0 : w.cell? ⟨b, 0, none⟩ = some (.int .i64 x)) (h1 : w.cell? ⟨b, 1, none⟩ = some (.int .i64 y)) :
    Calls Try.prog 38 #[.slice (some ⟨b, 0, none⟩) 2 2] w fun e w' => e = .returned (.int .i64 (orI x y)) ∧ w' = w := by
  unfold orI
  obtain ⟨r, hr⟩ : ∃ r, r = if x = 0 then y else x := ⟨_, rfl⟩
  rw [← hr]
  have HR : Hid (r = if x = 0 then y else x) := hr
  clear hr
  go_enter Try.func38, Try.ntmps38
  go_wp2
  go_loopw [8] (fun iv wx => ∃ k : Nat, k ≤ 2 ∧ iv = .int .i64 k ∧ wx = w ∧ (1 ≤ k → x = 0) ∧ (2 ≤ k → y = 0)) (fun iv _ => 2 - (intOf iv).toNat)
  case atStart => exact ⟨0, by omega, rfl, rfl, by omega, by omega⟩
  case round =>
    obtain ⟨k, hk, rfl, rfl, hx, hy⟩ := hrel
    match k, hk with
    | 0, _ =>
      clear hx hy
      by_cases c : x = 0
      · go_wp2
        go_roundw
        case rel => exact ⟨1, by omega, by first | rfl | trivial, by first | rfl | trivial, (by first | exact fun _ => c | trivial), (by first | omega | trivial)⟩
        case measure => simp only [intOf]; omega
      · go_wp2
        go_ret
        exact ⟨ret_int (by rw [HR.out, if_neg c]), rfl⟩
    | 1, _ =>
      by_cases c : y = 0
      · have hx' := hx (by omega)
        clear hx hy
        go_wp2
        go_roundw
        case rel => exact ⟨2, by omega, by first | rfl | trivial, by first | rfl | trivial, (by first | exact fun _ => hx' | trivial), (by first | exact fun _ => c | trivial)⟩
        case measure => simp only [intOf]; omega
      · have HX : Hid (x = 0) := hx (by omega)
        clear hx hy
        go_wp2
        go_ret
        exact ⟨ret_int (by rw [HR.out, if_pos HX.out]), rfl⟩
    | 2, _ =>
      have HX : Hid (x = 0 ∧ y = 0) := ⟨hx (by omega), hy (by omega)⟩
      clear hx hy
      go_wp2
      go_ret
      exact ⟨ret_int (by rw [HR.out, if_pos HX.out.1, HX.out.2]), rfl⟩
/-- How two pages lie: below 0, a ahead of b. -/
def ordI (a b : Rw) : Int := orI (cmpI a.s b.s) (cmpI a.p b.p)
theorem cmp_lt (x y : Int) : cmpI x y < 0 ↔ x < y := by
  unfold cmpI
  split
  · simp [*]
  · split <;> simp [*]
theorem cmp_eq (x y : Int) : cmpI x y = 0 ↔ x = y := by
  unfold cmpI
  split
  · have : x ≠ y := by omega
    simp [this]
  · split
    · have : x ≠ y := by omega
      simp [this]
    · have : x = y := by omega
      simp [this]
theorem ord_lt (a b : Rw) : ordI a b < 0 ↔ a.lt b := by
  unfold ordI orI Rw.lt
  by_cases c : cmpI a.s b.s = 0
  · rw [if_pos c, cmp_lt]
    have := (cmp_eq _ _).1 c
    omega
  · rw [if_neg c, cmp_lt]
    have : a.s ≠ b.s := fun e => c ((cmp_eq _ _).2 e)
    omega
set_option maxRecDepth 100000 in
set_option maxHeartbeats 4000000 in
theorem order_any (a b : Rw) (w : World) : Calls Try.prog 29 #[wv a.s a.p, wv b.s b.p] w fun e w' => e = .returned (.int .i64 (ordI a b)) ∧ Hid (Below w.heap.size w w') := by
  have HB : Hid (Below w.heap.size w ((w.alloc (.cells #[.int .i64 a.s, .int .i64 a.p] 28)).alloc (.cells #[.int .i64 b.s, .int .i64 b.p] 28))) := (new_below _ _).alloc (by simp) _
  have d0 : ((w.alloc (.cells #[.int .i64 a.s, .int .i64 a.p] 28)).alloc (.cells #[.int .i64 b.s, .int .i64 b.p] 28)).cell? ⟨w.heap.size, 0, none⟩ = some (.int .i64 a.s) := by rw [cell_alloc_old (by simp)]; simp
  have d1 : ((w.alloc (.cells #[.int .i64 a.s, .int .i64 a.p] 28)).alloc (.cells #[.int .i64 b.s, .int .i64 b.p] 28)).cell? ⟨w.heap.size, 1, none⟩ = some (.int .i64 a.p) := by rw [cell_alloc_old (by simp)]; simp
  have d2 : ((w.alloc (.cells #[.int .i64 a.s, .int .i64 a.p] 28)).alloc (.cells #[.int .i64 b.s, .int .i64 b.p] 28)).cell? ⟨w.heap.size + 1, 0, none⟩ = some (.int .i64 b.s) := by simp
  have d3 : ((w.alloc (.cells #[.int .i64 a.s, .int .i64 a.p] 28)).alloc (.cells #[.int .i64 b.s, .int .i64 b.p] 28)).cell? ⟨w.heap.size + 1, 1, none⟩ = some (.int .i64 b.p) := by simp
  unfold wv ordI
  go_enter Try.func29, Try.ntmps29
  go_wp2
  generalize (w.alloc (.cells #[.int .i64 a.s, .int .i64 a.p] 28)).alloc (.cells #[.int .i64 b.s, .int .i64 b.p] 28) = W at *
  go_region_held3 (fun w' => w'.cell? ⟨w.heap.size, 0, none⟩ = some (.int .i64 a.s) ∧ w'.cell? ⟨w.heap.size, 1, none⟩ = some (.int .i64 a.p) ∧ w'.cell? ⟨w.heap.size + 1, 0, none⟩ = some (.int .i64 b.s) ∧ w'.cell? ⟨w.heap.size + 1, 1, none⟩ = some (.int .i64 b.p)) (go_keep) (first | (go_at_call 39; refine (cmp_any _ _ _).mono ?_; rintro e w1 ⟨rfl, rfl⟩) | (go_at_call 38; refine (or_any (cmpI a.s b.s) (cmpI a.p b.p) W.heap.size _ ?q1 ?q2).mono ?_; (case q1 => simp); (case q2 => simp); rintro e w3 ⟨rfl, rfl⟩))
  go_wp2
  go_ret
  exact ⟨rfl, (HB.out.alloc HB.out.size _).drew⟩
end Go.Proofs.Ytdeaniigimmoaaa
/- has, give, take; New. -/
namespace Go.Proofs.Ytdeaniigimmoaaa
open Go.RowKit

section
variable {A : Nat → Prop} {w W : World} {m bf bp : Nat} {F : Fr} {Y : Th}
/-- How the frames of a page's space lie. -/
theorem fr_see (h : (FrT bf F).In A w) (s p : Int) (hs : okI s) (hp : okI p) : ∃ o : Option Nat, (∀ W, Below w.heap.size w W → (Instr.lookup 56 (.map (some bf)) (.int .i64 s) false).run Try.prog W = .ok (.map o) W) ∧ (∀ W, Below w.heap.size w W → (Instr.lookup 76 (.map o) (.int .i64 p) true).run Try.prog W = .ok (pairV (F s p)) W) ∧ (o = none → F s p = none) := by
  obtain ⟨L, rfl, h⟩ := h
  have hm := MX.mp h
  refine ⟨(getL L s).map fun x => x.1, fun W hb => get_ff (hm.same (hb.block _ hm.lt)) hs, ?_, ?_⟩
  · cases e : getL L s with
    | none =>
      intro W _
      rw [show lk2 L s p = none by unfold lk2; rw [e]; rfl]
      exact look_nil hp W
    | some x =>
      obtain ⟨C, h1, _⟩ := mx_open h e
      rw [show lk2 L s p = getL x.2 p by unfold lk2; rw [e]; rfl]
      exact fun W hb => look_pp (h1.2.same (hb.block _ h1.2.lt)) hp
  · intro e
    unfold lk2
    rw [Option.map_eq_none_iff.1 e]
    rfl
set_option maxRecDepth 100000 in
set_option maxHeartbeats 4000000 in
theorem has_any (h : (RmY m bf bp F Y).In A w) {s p : Int} (hs : okI s) (hp : okI p) :
    Calls Try.prog 26 #[.pointer (some ⟨m, 0, none⟩), wv s p] w fun e w' => e = .returned (.bool (F s p).isSome) ∧ Hid (Below w.heap.size w w') := by
  obtain ⟨C, hf⟩ := RmX.fr h
  have hb0 := new_below w (.cells #[.int .i64 s, .int .i64 p] 28)
  obtain ⟨o, q1, q2, -⟩ := fr_see hf s p hs hp
  have q1' := q1 _ (hb0.drew)
  have q2' := q2 _ (hb0.drew)
  have c0 : (w.alloc (.cells #[.int .i64 s, .int .i64 p] 28)).cell? ⟨m, 0, none⟩ = some (.map (some bf)) := by rw [((RmX.box h).below hb0).cell]; rfl
  have HB : Hid (Below w.heap.size w (w.alloc (.cells #[.int .i64 s, .int .i64 p] 28))) := hb0
  have x0 : (w.alloc (.cells #[.int .i64 s, .int .i64 p] 28)).cell? ⟨w.heap.size, 0, none⟩ = some (.int .i64 s) := by simp
  have x1 : (w.alloc (.cells #[.int .i64 s, .int .i64 p] 28)).cell? ⟨w.heap.size, 1, none⟩ = some (.int .i64 p) := by simp
  have hv : ∃ (x : Int), pairV (F s p) = .tuple #[.int .i64 x, .bool (F s p).isSome] := by
    cases F s p with
    | none => exact ⟨0, rfl⟩
    | some x => exact ⟨x, rfl⟩
  obtain ⟨x, hx⟩ := hv
  rw [hx] at q2'
  unfold wv
  clear h hf hb0 q1 q2 hx hs hp
  generalize (F s p).isSome = ib at *
  go_enter Try.func26, Try.ntmps26
  go_wp2
  generalize w.alloc (.cells #[.int .i64 s, .int .i64 p] 28) = W at *
  go_region
  go_wp2
  go_ret
  exact ⟨rfl, HB.out.drew⟩
/-- An argument's box beside a map. -/
def wBox (b : Nat) (s p : Int) : Th := Th.box b 28 #[.int .i64 s, .int .i64 p]
def RmBY (b : Nat) (s p : Int) (m bf bp : Nat) (F : Fr) (Y : Th) : Th := (wBox b s p).and (RmY m bf bp F Y)
abbrev RmB (b : Nat) (s p : Int) (m bf bp : Nat) (F : Fr) (G : Pg) : Th := RmBY b s p m bf bp F (PgT bp G)
variable {b : Nat} {s p f : Int}
theorem rb_start (h : (RmY m bf bp F Y).In A w) (s p : Int) : Bec A w (RmBY w.heap.size s p m bf bp F Y) (w.alloc (.cells #[.int .i64 s, .int .i64 p] 28)) := (Bec.refl h).new (box_new w _ _)
theorem rb_cells (h : (RmBY b s p m bf bp F Y).In A w) : w.cell? ⟨m, 0, none⟩ = some (.map (some bf)) ∧ w.cell? ⟨m, 1, none⟩ = some (.map (some bp)) ∧ w.cell? ⟨b, 0, none⟩ = some (.int .i64 s) ∧ w.cell? ⟨b, 1, none⟩ = some (.int .i64 p) := by
  obtain ⟨_, _, _, _, h1, h2⟩ := h
  have h3 := RmX.box h2
  refine ⟨by rw [h3.cell]; rfl, by rw [h3.cell]; rfl, by rw [h1.2.cell]; rfl, by rw [h1.2.cell]; rfl⟩
theorem rb_lt (h : (RmBY b s p m bf bp F Y).In A w) : m < w.heap.size ∧ b < w.heap.size := by
  obtain ⟨_, _, _, _, h1, h2⟩ := h
  exact ⟨(RmX.box h2).lt, h1.2.lt⟩
theorem rb_fr (h : (RmBY b s p m bf bp F Y).In A w) : ∃ C, (FrT bf F).In C w ∧ ∀ {F' : Fr} {w' : World}, Bec C w (FrT bf F') w' → Bec A w (RmBY b s p m bf bp F' Y) w' := by
  obtain ⟨C, h1, h2⟩ := In.open (and_comm _ _ h)
  obtain ⟨D, h3, h4⟩ := rm_fr h1
  exact ⟨D, h3, fun k => (h2 (h4 k)).imp (and_comm _ _)⟩
theorem in_drew {X : Th} (h : X.In A w) : X.In A w.drew := X.keeps h (Keeps.of_below (Below.refl _ _).drew (fun _ => False)) fun _ _ e => e
theorem bec_drew {X : Th} {w' : World} (h : Bec A w.drew X w') : Bec A w X w' := by
  obtain ⟨F', h1, h2, h3⟩ := h
  exact ⟨F', h1, h2, h3.os, h3.tape, h3.output, h3.size, h3.block⟩
theorem fr_put {L : FL} {g : Nat} {es : Ps} (h : (MX ffM spT bf L).In A w) (hg : getL L s = some (g, es)) (hp : okI p) (f : Int) :
    ∃ w', (Instr.mapUpdate 76 (.map (some g)) (.int .i64 p) (.int .i64 f)).run Try.prog w = .ok () w' ∧ Bec A w (FrT bf ((lk2 L).set s p (some f))) w' := by
  obtain ⟨C, h1, h2⟩ := mx_open h hg
  obtain ⟨w', r1, r2, r3⟩ := Mp.store (M := ppM) h1.2 hp f
  refine ⟨w', r1, (h2 (y := (g, putL es p f)) rfl (mp_turn h1 r2 r3)).imp fun k => ⟨_, ?_, k⟩⟩
  funext a c
  rw [lk2_put, getL_put]
  unfold Fr.set lk2
  by_cases ea : a = s
  · by_cases ec : c = p
    · simp [ea, ec]
    · simp [ea, ec, hg]
  · simp [ea]
theorem fr_new {L : FL} (h : (MX ffM spT bf L).In A w) (hg : getL L s = none) (hs : okI s) :
    ∃ w', (Instr.mapUpdate 56 (.map (some bf)) (.int .i64 s) (.map (some w.heap.size))).run Try.prog (w.alloc (.map #[] 0)) = .ok () w' ∧ Bec A w (MX ffM spT bf (putL L s (w.heap.size, []))) w' ∧ lk2 (putL L s (w.heap.size, [])) = lk2 L := by
  have k1 : Bec A w ((spT (w.heap.size, [])).and (MXh ffM spT bf L s)) (w.alloc (.map #[] 0)) := (mx_hole h).new (mp_new (Mp.made ppM w) (Nat.le_refl _) (new_below _ _))
  obtain ⟨C, k2, k3⟩ := k1.next
  obtain ⟨w', r1, r2, -⟩ := mx_store k2 (M := ffM) hs
  refine ⟨w', r1, k3 r2, ?_⟩
  funext a c
  rw [lk2_put]
  unfold lk2
  by_cases ea : a = s
  · rw [if_pos ea, ea, hg]
    rfl
  · rw [if_neg ea]
set_option maxRecDepth 100000 in
set_option maxHeartbeats 4000000 in
theorem give_any (h : (RmY m bf bp F Y).In A w) (hs : okI s) (hp : okI p) :
    Calls Try.prog 27 #[.pointer (some ⟨m, 0, none⟩), wv s p, .int .i64 f] w fun e w' => e = .returned (.tuple #[]) ∧ Hid (Bec A w (RmY m bf bp (F.set s p (some f)) Y) w') := by
  obtain ⟨A1, h1, h2⟩ := (rb_start h s p).next
  have HQ : Hid (∀ {X : Th} {w'' : World}, Bec A1 (w.alloc (.cells #[.int .i64 s, .int .i64 p] 28)) ((wBox w.heap.size s p).and X) w'' → Bec A w X w'') := fun k => (h2 k).right
  have h3 := in_drew h1
  have hq := fun w o => run_eql_map_nil_sl (P := Try.prog) w 76 _ _ o Try.underlying76
  obtain ⟨c0, -, x0, x1⟩ := rb_cells h1
  obtain ⟨C, hf, hcl⟩ := rb_fr (in_drew h3)
  obtain ⟨L, rfl, hL⟩ := hf
  unfold wv
  generalize hW : w.alloc (.cells #[.int .i64 s, .int .i64 p] 28) = W at *
  have hm := MX.mp hL
  have hl0 := get_ff (hm.same (w' := W.drew) rfl) hs
  have hl1 := get_ff hm hs
  cases e : getL L s with
  | some x =>
    obtain ⟨g, es⟩ := x
    rw [e] at hl0 hl1
    simp only [Option.map_some] at hl0 hl1
    obtain ⟨w4, r1, r2⟩ := fr_put hL e hp f
    have HE : Hid (Bec A w (RmY m bf bp ((lk2 L).set s p (some f)) Y) w4) := HQ.out (bec_drew (bec_drew (hcl r2)))
    have hW0 := hW
    clear h h1 h2 h3 hcl hL hm hs hp e r2 hW HQ
    go_enter Try.func27, Try.ntmps27
    go_wp2
    go_region
    go_wp2
    go_region
    go_wp2
    first | go_end0 | (refine bodyPost_ret (results_none rfl _ _ _) rfl ?_)
    exact ⟨rfl, HE⟩
  | none =>
    rw [e] at hl0 hl1
    simp only [Option.map_none] at hl0 hl1
    obtain ⟨w3, r1, r2, r3⟩ := fr_new hL e hs
    rw [show W.drew.drew.heap.size = W.heap.size from rfl] at r1 r2 r3
    have g1 : getL (putL L s (W.heap.size, [])) s = some (W.heap.size, []) := by rw [getL_put, if_pos rfl]
    obtain ⟨C3, m1, m2⟩ := r2.next
    have hl3 := get_ff ((MX.mp m1).same (w' := w3.drew) rfl) hs
    rw [g1] at hl3
    simp only [Option.map_some] at hl3
    obtain ⟨w4, r4, r5⟩ := fr_put (in_drew m1) g1 hp f
    rw [r3] at r5
    have HE : Hid (Bec A w (RmY m bf bp ((lk2 L).set s p (some f)) Y) w4) := HQ.out (bec_drew (bec_drew (hcl (m2 (bec_drew r5)))))
    have k3 : Bec A1 W.drew.drew (RmBY w.heap.size s p m bf bp (lk2 L) Y) w3 := hcl (r2.imp fun k => ⟨_, r3, k⟩)
    obtain ⟨A3, k4, -⟩ := k3.next
    obtain ⟨d0, -, y0, y1⟩ := rb_cells k4
    have hmm := @run_makeMap Try.prog
    have r1' : (Instr.mapUpdate 56 (.map (some bf)) (.int .i64 s) (.map (some W.heap.size))).run Try.prog (W.alloc (.map #[] 0)).drew.drew = .ok () w3 := r1
    obtain ⟨lm, lb⟩ := rb_lt h1
    have dm := fun o v => cell_alloc_old lm o v
    have db := fun o v => cell_alloc_old lb o v
    have hW0 := hW
    clear h h1 h2 h3 hcl hL hm hs hp e r2 hW HQ m1 m2 r3 r5 k3 k4 g1 r1
    go_enter Try.func27, Try.ntmps27
    go_wp2
    go_region
    go_wp2
    go_region
    go_wp2
    go_region
    go_wp2
    first | go_end0 | (refine bodyPost_ret (results_none rfl _ _ _) rfl ?_)
    exact ⟨rfl, HE⟩
end
end Go.Proofs.Ytdeaniigimmoaaa
/- take. -/
namespace Go.Proofs.Ytdeaniigimmoaaa
open Go.RowKit

section
variable {A : Nat → Prop} {w W : World} {m bf bp : Nat} {F : Fr} {Y : Th} {s p f : Int}
theorem fr_del {L : FL} {g : Nat} {es : Ps} (h : (MX ffM spT bf L).In A w) (hg : getL L s = some (g, es)) (hp : okI p) (ty : TypeId) :
    ∃ w', (Builtin.delete_ #[76, 3] ty #[.map (some g), .int .i64 p]).run Try.prog w = .ok (.tuple #[]) w' ∧ Bec A w (MX ffM spT bf (putL L s (g, delL es p))) w' ∧ lk2 (putL L s (g, delL es p)) = (lk2 L).set s p none := by
  obtain ⟨C, h1, h2⟩ := mx_open h hg
  obtain ⟨w', r1, r2, r3⟩ := Mp.drop (M := ppM) h1.2 hp ty
  refine ⟨w', r1, h2 (y := (g, delL es p)) rfl (mp_turn h1 r2 r3), ?_⟩
  funext a c
  rw [lk2_put, getL_del]
  unfold Fr.set lk2
  by_cases ea : a = s
  · by_cases ec : c = p
    · simp [ea, ec]
    · simp [ea, ec, hg]
  · simp [ea]
theorem fr_gone {L : FL} {g : Nat} (h : (MX ffM spT bf L).In A w) (hg : getL L s = some (g, [])) (hs : okI s) (ty : TypeId) :
    ∃ w', (Builtin.delete_ #[56, 3] ty #[.map (some bf), .int .i64 s]).run Try.prog w = .ok (.tuple #[]) w' ∧ Bec A w (FrT bf (lk2 L)) w' := by
  obtain ⟨w', r1, r2, -⟩ := mx_drop (M := ffM) h hs ty
  refine ⟨w', r1, r2.imp fun k => ⟨_, ?_, k⟩⟩
  funext a c
  rw [lk2_del]
  unfold lk2
  by_cases ea : a = s
  · rw [if_pos ea, ea, hg]
    rfl
  · rw [if_neg ea]
theorem len_pp {g : Nat} {es : Ps} (h : Mp ppM w g es) (ty : TypeId) : (Builtin.len_ #[76] ty #[.map (some g)]).run Try.prog w = .ok (.int .i64 es.length) w := h.len ty
set_option maxRecDepth 100000 in
set_option maxHeartbeats 4000000 in
theorem take_any (h : (RmY m bf bp F Y).In A w) (hs : okI s) (hp : okI p) (hF : F s p ≠ none) :
    Calls Try.prog 31 #[.pointer (some ⟨m, 0, none⟩), wv s p] w fun e w' => e = .returned (.tuple #[]) ∧ Hid (Bec A w (RmY m bf bp (F.set s p none) Y) w') := by
  obtain ⟨A1, h1, h2⟩ := (rb_start h s p).next
  have HQ : Hid (∀ {X : Th} {w'' : World}, Bec A1 (w.alloc (.cells #[.int .i64 s, .int .i64 p] 28)) ((wBox w.heap.size s p).and X) w'' → Bec A w X w'') := fun k => (h2 k).right
  obtain ⟨c0, -, x0, x1⟩ := rb_cells h1
  obtain ⟨C, hf, hcl⟩ := rb_fr (in_drew h1)
  obtain ⟨L, rfl, hL⟩ := hf
  unfold wv
  generalize hW : w.alloc (.cells #[.int .i64 s, .int .i64 p] 28) = W at *
  have hm := MX.mp hL
  have hl0 := get_ff hm hs
  cases e : getL L s with
  | none => exact absurd (by unfold lk2; rw [e]; rfl) hF
  | some x =>
    obtain ⟨g, es⟩ := x
    rw [e] at hl0
    simp only [Option.map_some] at hl0
    have r0 := fun ty => fr_del hL e hp ty
    obtain ⟨w3, r1, r2, r3⟩ := r0 0
    have r1' : ∀ ty, (Builtin.delete_ #[76, 3] ty #[.map (some g), .int .i64 p]).run Try.prog W.drew = .ok (.tuple #[]) w3 := fun ty => r1
    have g1 : getL (putL L s (g, delL es p)) s = some (g, delL es p) := by rw [getL_put, if_pos rfl]
    obtain ⟨C3, m1, m2⟩ := r2.next
    have hl3 := get_ff ((MX.mp m1).same (w' := w3.drew) rfl) hs
    rw [g1] at hl3
    simp only [Option.map_some] at hl3
    obtain ⟨D, n1, -⟩ := mx_open (in_drew m1) g1
    have hlen := len_pp n1.2
    have k3 : Bec A1 W.drew (RmBY w.heap.size s p m bf bp ((lk2 L).set s p none) Y) w3 := hcl (r2.imp fun k => ⟨_, r3, k⟩)
    obtain ⟨A3, k4, -⟩ := k3.next
    obtain ⟨d0, -, y0, y1⟩ := rb_cells k4
    have hW0 := hW
    by_cases hn : delL es p = []
    · rw [hn] at g1 hlen
      have hm1 := m1
      rw [hn] at hm1
      obtain ⟨w5, q1, q2⟩ := fr_gone (in_drew (in_drew hm1)) g1 hs 0
      have q1' : ∀ ty, (Builtin.delete_ #[56, 3] ty #[.map (some bf), .int .i64 s]).run Try.prog w3.drew.drew = .ok (.tuple #[]) w5 := fun ty => q1
      rw [hn] at r3
      rw [r3] at q2
      have HE : Hid (Bec A w (RmY m bf bp ((lk2 L).set s p none) Y) w5) := HQ.out (bec_drew (hcl (m2 (bec_drew (bec_drew q2)))))
      simp only [List.length_nil, Int.ofNat_zero] at hlen
      clear h h1 h2 hcl hL hm hs hp e r2 hW HQ m1 m2 r3 k3 k4 g1 hn n1 hm1 q2 r0 r1 q1 hF
      go_enter Try.func31, Try.ntmps31
      go_wp2
      go_region
      go_wp2
      go_region
      go_wp2
      go_region
      go_wp2
      first | go_end0 | (refine bodyPost_ret (results_none rfl _ _ _) rfl ?_)
      exact ⟨rfl, HE⟩
    · have hn' : ¬ (((delL es p).length : Int) = 0) := fun e => hn (List.length_eq_zero_iff.1 (by omega))
      have HE : Hid (Bec A w (RmY m bf bp ((lk2 L).set s p none) Y) w3.drew) := HQ.out (bec_drew ((hcl (r2.imp fun k => ⟨_, r3, k⟩)).below (Below.refl _ _).drew))
      generalize (delL es p).length = n at *
      clear h h1 h2 hcl hL hm hs hp e r2 hW HQ m1 m2 r3 k3 k4 g1 hn n1 r0 r1 hF
      go_enter Try.func31, Try.ntmps31
      go_wp2
      go_region
      go_wp2
      go_region
      go_wp2
      first | go_end0 | (refine bodyPost_ret (results_none rfl _ _ _) rfl ?_)
      exact ⟨rfl, HE⟩
end
end Go.Proofs.Ytdeaniigimmoaaa
/- slices.Clone and slices.Delete over rows of one kind of record. -/
namespace Go.Proofs.Ytdeaniigimmoaaa
open Go.RowKit

theorem heap_alloc2_rWh (w : World) (o : Obj) : (w.alloc o).heap.size = w.heap.size + 1 := by simp

/-- What Clone tells: a row of its own. -/
def ClonePrWh (w : World) (l : List Rw) (e : Ending) (w' : World) : Prop := ∃ v', e = .returned v' ∧ Row rWh w.heap.size w' v' l ∧ Below w.heap.size w w'
set_option maxRecDepth 100000 in
set_option maxHeartbeats 2000000 in
theorem clone_rWh {B : Nat} {w : World} {v : Value} {l : List Rw} (hown : Row rWh B w v l) (hm : l.length ≤ 4096) :
    Calls Try.prog 35 #[v] w (ClonePrWh w l) := by
  have q22 : ∀ (w : World) (a : Option Addr) (n c n' c' : Nat), (binOp .eql 49 (.slice a n c) (.slice none n' c')).run Try.prog w = .ok (.bool a.isNone) w := fun w a n c n' c' => Lib.run_eql_slice_nil w _ _ a n c n' c' Try.underlying49
  rcases hown.cases with ⟨rfl, rfl⟩ | ⟨g, c, cur, rfl, hB, hg0, hg, hlc, hcm, hs, hh⟩
  · go_enter Try.func35, Try.ntmps35
    go_wp2
    go_ret
    exact ⟨_, rfl, Row.nil _ _ _, Below.refl _ _⟩
  · have hcm' : c ≤ 9223372036854775807 := by unfold maxLen at hcm; omega
    have HS : Hid (Seen rWh (w.alloc (.cells #[] 28)) (some ⟨g, 0, none⟩) c l) := hown.seen.2.below ((Below.refl _ _).alloc (Nat.le_refl _) _)
    have HR0 : Hid (Row rWh w.heap.size (w.alloc (.cells #[] 28)) (.slice (some ⟨w.heap.size, 0, none⟩) 0 0) []) := World.ownsRow_made w #[] 0 (Nat.le_refl _) (Nat.zero_le _) (by simp)
    clear hown hh hs hcm hB
    go_enter Try.func35, Try.ntmps35
    go_wp2_with (at_builtin; refine list_app rWh.kin rfl _ _ rfl w.heap.size _ [] l rfl HR0.out (some ⟨g, 0, none⟩) l.length c rfl rfl HS.out ?c3 ?c4 ?c5 ?_)
    case c3 => simp [maxLen]; omega
    case c4 => simp [rWh]; omega
    case c5 => simp
    intro v' w1 ho hgrow
    have HO : Hid (Row rWh w.heap.size w1 v' l) := ho
    clear ho
    go_wp2
    go_ret
    exact ⟨v', rfl, HO.out, ((Below.refl _ w).alloc (Nat.le_refl _) _).grown hgrow (by simp) (by intro k hk; simp [Value.ownBlock] at hk; omega)⟩

/-- What Delete, Insert and Replace tell: the row that was, turned, or a new one. -/
def TurnPrWh (w : World) (B : Nat) (v : Value) (l : List Rw) (e : Ending) (w' : World) : Prop := ∃ v', e = .returned v' ∧ Row rWh B w' v' l ∧ Keeps w w' (fun b => v.ownBlock = some b) ∧ ∀ g, v'.ownBlock = some g → v.ownBlock = some g ∨ w.heap.size ≤ g
/-- What Delete tells, to the block. -/
def DelPrWh (w : World) (B g c : Nat) (l : List Rw) (e : Ending) (w' : World) : Prop := e = .returned (.slice (some ⟨g, 0, none⟩) l.length c) ∧ Row rWh B w' (.slice (some ⟨g, 0, none⟩) l.length c) l ∧ Keeps w w' (fun b => b = g)
theorem keeps_own {w w' : World} {g n c : Nat} (h : Keeps w w' (fun b => b = g)) : Keeps w w' (fun b => (Value.slice (some ⟨g, 0, none⟩) n c).ownBlock = some b) := h.mono fun b _ e => by
  subst e
  rfl
theorem keeps_drew {w w' : World} {s : Nat → Prop} (h : Keeps w.drew w' s) : Keeps w w' s := ⟨h.os, h.tape, h.output, h.size, h.block⟩

set_option maxRecDepth 100000 in
set_option maxHeartbeats 4000000 in
theorem deleteI_rWh {B : Nat} {w : World} {g c : Nat} {l : List Rw} (hown : Row rWh B w (.slice (some ⟨g, 0, none⟩) l.length c) l) (i : Nat) (hi : i < l.length) :
    Calls Try.prog 32 #[.slice (some ⟨g, 0, none⟩) l.length c, .int .i64 i, .int .i64 ((i + 1 : Nat) : Int)] w (DelPrWh w B g c (l.take i ++ l.drop (i + 1))) := by
  obtain ⟨i0, z0, hi0, hz0, hz1, hz2, hzs⟩ := rWh.kin.inf
  obtain ⟨_, hB, hlt, cur, hg, hlc, hcm, hs, hc⟩ := hown.cur
  have hcm' : c ≤ 9223372036854775807 := by unfold maxLen at hcm; omega
  obtain ⟨news, hnews⟩ : ∃ news, news = rWh.all (l.drop (i + 1)) := ⟨_, rfl⟩
  have hlen : news.length = (l.length - (i + 1)) * 2 := by rw [hnews, Rec.all_len, List.length_drop]; rfl
  have hnw := hown.news (i + 1)
  rw [← hnews] at hnw
  simp only [show rWh.n = 2 from rfl] at hnw
  obtain ⟨A, hA, hsrc⟩ : ∃ A : Addr, (if c = i + 1 then some (⟨g, 0, none⟩ : Addr) else some ⟨g, (i + 1) * 2, none⟩) = some A ∧ Hid (∀ t u, news[t]? = some u → w.drew.cell? (A.add t) = some u) := by
    by_cases h : c = i + 1
    · refine ⟨⟨g, 0, none⟩, by simp [h], fun t u hu => ?_⟩
      have h0 : news.length = 0 := by rw [hlen]; omega
      rw [List.length_eq_zero_iff.1 h0] at hu
      simp at hu
    · refine ⟨⟨g, (i + 1) * 2, none⟩, by simp [h], fun t u hu => ?_⟩
      rw [Addr.add_lit]
      exact hnw t u hu
  have s1 : Hid (news.length = (l.length - (i + 1)) * 2) := hlen
  have s2 : Hid (∀ u ∈ news, u.oneCell' = true) := by rw [hnews]; exact rWh.all_oneCell _
  have s3 : Hid (∀ t, t < news.length → (w.drew.cell? ⟨g, 0 + i * 2 + t, none⟩).isSome = true ∧ w.drew.frozen? ⟨g, 0 + i * 2 + t, none⟩ = false) := by
    intro t ht
    rw [hlen] at ht
    exact hown.spare (0 + i * 2 + t) (by show _ < c * 2; omega)
  obtain ⟨W1, hW1⟩ : ∃ W1, W1 = w.drew.setCells g (0 + i * 2) news := ⟨_, rfl⟩
  have hk1 : Keeps w W1 (fun b => b = g) := by rw [hW1]; exact keeps_drew (Keeps.sets news w.drew g _)
  have hr1 : Row rWh B W1 (.slice (some ⟨g, 0, none⟩) (i + (l.length - (i + 1))) c) (l.take i ++ l.drop (i + 1)) := by
    have h1 : Row rWh B w.drew (.slice (some ⟨g, 0, none⟩) l.length c) l := hown.below (Below.refl _ _).drew
    have h2 := h1.repl i (i + 1) [] (by omega) (by simp; omega) (nn := i + (l.length - (i + 1))) (by simp)
    rw [hW1, hnews, Nat.zero_add]
    simpa [Rec.all, World.setCells, show rWh.n = 2 from rfl] using h2
  have hle : (l.take i ++ l.drop (i + 1)).length = i + (l.length - (i + 1)) := by simp; omega
  obtain ⟨vs, hvl, hcl⟩ := run_clearR rWh.kin rWh.zone W1 g ((i + (l.length - (i + 1))) * 2) (l.length - (i + (l.length - (i + 1)))) (c - (i + (l.length - (i + 1)))) (fun j hj => (hr1.spare _ (by
    have hj' : j < (l.length - (i + (l.length - (i + 1)))) * 2 := hj
    show _ < c * 2
    omega)).1) (fun j => hr1.frozen j)
  have X : Hid (DelPrWh w B g c (l.take i ++ l.drop (i + 1)) (.returned (.slice (some ⟨g, 0, none⟩) (i + (l.length - (i + 1))) c)) (W1.setCells g ((i + (l.length - (i + 1))) * 2) vs)) := by
    refine ⟨by rw [hle], ?_, hk1.trans (Keeps.sets vs W1 g _) fun _ _ h => h⟩
    rw [hle]
    exact hr1.tail _ vs (by rw [hle]; exact Nat.le_refl _)
  have hW : Hid (W1 = w.drew.setCells g (0 + i * 2) news) := hW1
  clear hW1 hg hs hc hown hnews hlen hB hvl hr1 hk1 hnw hle hlt
  have hic : i ≤ c := by omega
  have hjc : i + 1 ≤ c := by omega
  have q1 : (0 : Int) ≤ (i : Int) + 1 ∧ (i : Int) + 1 ≤ (l.length : Int) := by omega
  go_enter Try.func32, Try.ntmps32
  go_wp2_with fail
  go_region_law (refine step_append_room rfl (.tmp 22) (.tmp 25) 49 rfl 28 i0 2 Try.underlying49 hi0 hz1 g 0 i c (by simp [Act.eval, Act.put]) A (l.length - (i + 1)) (c - (i + 1)) news (by simp [Act.eval, Act.put]) s1.out hsrc.out s2.out (by omega) s3.out ?_; rw [← hW.out])
  go_wp2
  go_ret
  exact X.out
theorem delete_rWh {B : Nat} {w : World} {g c : Nat} {l : List Rw} (hown : Row rWh B w (.slice (some ⟨g, 0, none⟩) l.length c) l) (i : Nat) (hi : i < l.length) :
    Calls Try.prog 32 #[.slice (some ⟨g, 0, none⟩) l.length c, .int .i64 i, .int .i64 ((i + 1 : Nat) : Int)] w (TurnPrWh w B (.slice (some ⟨g, 0, none⟩) l.length c) (l.take i ++ l.drop (i + 1))) :=
  (deleteI_rWh hown i hi).mono fun _ _ h => ⟨_, h.1, h.2.1, keeps_own h.2.2, fun _ hg' => Or.inl hg'⟩
end Go.Proofs.Ytdeaniigimmoaaa
/- slices.Insert over rows of one kind of record. -/
namespace Go.Proofs.Ytdeaniigimmoaaa
open Go.RowKit

set_option maxRecDepth 100000 in
set_option maxHeartbeats 4000000 in
/-- At the end. -/
theorem insertE_rWh {B : Nat} {w : World} {v : Value} {q cq : Nat} {l M : List Rw} (hown : Row rWh B w v l) (hsrc : Row rWh 0 w (.slice (some ⟨q, 0, none⟩) M.length cq) M) (hM : 0 < M.length) (hm : l.length + M.length ≤ 4096) (hB : B ≤ w.heap.size) :
    Calls Try.prog 30 #[v, .int .i64 l.length, .slice (some ⟨q, 0, none⟩) M.length cq] w (TurnPrWh w B v (l ++ M)) := by
  have hz1 : ¬ ((M.length : Int) = 0) := by omega
  have HS : Hid (Seen rWh w (some ⟨q, 0, none⟩) cq M) := hsrc.seen.2
  have HO : Hid (Row rWh B w v l) := hown
  have hcase : (v = .slice none 0 0 ∧ l.length = 0) ∨ ∃ g c, v = .slice (some ⟨g, 0, none⟩) l.length c ∧ l.length ≤ c ∧ c ≤ 9223372036854775807 := by
    rcases hown.cases with ⟨rfl, rfl⟩ | ⟨g, c, cur, rfl, _, _, _, h1, h2, _⟩
    · exact Or.inl ⟨rfl, rfl⟩
    · exact Or.inr ⟨g, c, rfl, h1, by unfold maxLen at h2; omega⟩
  clear hown hsrc
  rcases hcase with ⟨rfl, h0⟩ | ⟨g, c, rfl, hlc, hcm⟩
  · rw [h0]
    go_enter Try.func30, Try.ntmps30
    go_wp2_with (at_builtin; refine list_app' rWh.kin rfl _ _ rfl B _ l M rfl HO.out (some ⟨q, 0, none⟩) M.length cq rfl rfl HS.out ?c3 ?c4 hB ?_)
    case c3 => unfold maxLen; omega
    case c4 => show _ * 16 ≤ _; omega
    intro v' w1 ho hgrow hw _
    have HR : Hid (Row rWh B w1 v' (l ++ M)) := ho
    have HG : Hid (w.grownBy w1 (Value.slice none 0 0).ownBlock) := hgrow
    have HW : Hid (∀ g, v'.ownBlock = some g → _ ∨ w.heap.size ≤ g) := hw
    clear ho hgrow hw
    go_wp2
    go_ret
    refine ⟨v', rfl, HR.out, (Keeps.of_grown HG.out).mono fun _ _ e => e.symm ▸ rfl, HW.out⟩
  · obtain ⟨A, hA⟩ : ∃ A : Addr, (if c = l.length then some (⟨g, 0, none⟩ : Addr) else some ⟨g, l.length * 2, none⟩) = some A := by
      split
      · exact ⟨_, rfl⟩
      · exact ⟨_, rfl⟩
    go_enter Try.func30, Try.ntmps30
    go_wp2_with (at_builtin; refine list_app' rWh.kin rfl _ _ rfl B _ l M rfl HO.out (some ⟨q, 0, none⟩) M.length cq rfl rfl HS.out ?c3 ?c4 hB ?_)
    case c3 => unfold maxLen; omega
    case c4 => show _ * 16 ≤ _; omega
    intro v' w1 ho hgrow hw
    have HR : Hid (Row rWh B w1 v' (l ++ M)) := ho
    have HG : Hid (w.grownBy w1 (Value.slice (some ⟨g, 0, none⟩) l.length c).ownBlock) := hgrow
    have HW : Hid (∀ g, v'.ownBlock = some g → _ ∨ w.heap.size ≤ g) := hw
    clear ho hgrow hw
    go_wp2
    go_ret
    refine ⟨v', rfl, HR.out, (Keeps.of_grown HG.out).mono fun _ _ e => e.symm ▸ rfl, HW.out⟩

theorem info_rWh : (Try.prog.info? 28).map (fun i => i.size) = some 2 := by kernel_rfl

set_option maxRecDepth 100000 in
set_option maxHeartbeats 4000000 in
/-- No room: a new row. -/
theorem insertN_rWh {B : Nat} {w : World} {g c q cq : Nat} {l M : List Rw} (hown : Row rWh B w (.slice (some ⟨g, 0, none⟩) l.length c) l) (hsrc : Row rWh 0 w (.slice (some ⟨q, 0, none⟩) M.length cq) M) (hM : 0 < M.length) (hm : l.length + M.length ≤ 4096) (hB : B ≤ w.heap.size)
    (i : Nat) (hi : i < l.length) (hroom : c < l.length + M.length) :
    Calls Try.prog 30 #[.slice (some ⟨g, 0, none⟩) l.length c, .int .i64 i, .slice (some ⟨q, 0, none⟩) M.length cq] w (TurnPrWh w B (.slice (some ⟨g, 0, none⟩) l.length c) (l.take i ++ (M ++ l.drop i))) := by
  obtain ⟨_, _, hlt, cur0, hg0, hlc, hcm, hs0, hc0⟩ := hown.cur
  obtain ⟨_, _, hltq, _⟩ := hsrc.cur
  have hz1 : ¬ ((M.length : Int) = 0) := by omega
  have hz2 : ¬ ((i : Int) = (l.length : Int)) := by omega
  have hic : i ≤ c := by omega
  have hcm' : c ≤ 9223372036854775807 := by unfold maxLen at hcm; omega
  have hci : ¬ (c = i) := by omega
  obtain ⟨k, hk⟩ : ∃ k, k = l.length + M.length - i := ⟨_, rfl⟩
  obtain ⟨G, cur, hG1, hG2, hcs, hold, hz⟩ := run_zerosR rWh.kin 3 Try.underlying3 w g i c k (l.take i) (by simp; omega) (by omega) (by omega) (by show _ * 16 ≤ _; omega) (by unfold maxLen; omega) (fun j u hj => by
    have h0 := hown.news 0
    rw [List.drop_zero] at h0
    have h1 := h0 j u (by
      rw [← List.take_append_drop i l, Rec.all_append, List.getElem?_append_left (List.getElem?_eq_some_iff.1 hj).1]
      exact hj)
    simpa using h1)
  obtain ⟨W1, hW1⟩ : ∃ W1, W1 = w.drew.alloc (.cells cur rWh.t (0, 0)) := ⟨_, rfl⟩
  have hb1 : Below w.heap.size w W1 := by rw [hW1]; exact (Below.refl _ _).drew.alloc (Nat.le_refl _) _
  have hg1 : W1.heap[w.heap.size]? = some (.cells cur rWh.t (0, 0)) := by rw [hW1]; exact heap_alloc_new w.drew _
  have hkz : ((k : Nat) : Int) = (l.length : Int) + (M.length : Int) - (i : Int) := by omega
  obtain ⟨T, hT⟩ : ∃ T, T = i + k := ⟨_, rfl⟩
  rw [hkz] at hz
  rw [← hT, ← hW1] at hz
  have hcp1 : ∀ dc ty, (Builtin.copy_ #[49, 49] ty #[.slice (some ⟨w.heap.size, i * 2, none⟩) (T - i) dc, .slice (some ⟨q, 0, none⟩) M.length cq]).run Try.prog W1 = .ok (goInt M.length) (W1.setCells w.heap.size (i * 2) (rWh.all M)) := fun dc ty =>
    copy_row rWh.kin M (by simp only [Nat.min_def]; split <;> omega) (fun j hj => blk_spare hg1 (by have hj' : j < M.length * 2 := hj; have hcs' : cur.size = G * 2 := hcs; omega)) (fun j u hj => by
      have := (hsrc.below hb1).news 0 j u (by simpa using hj)
      simpa using this) ty
  obtain ⟨W2, hW2⟩ : ∃ W2, W2 = W1.setCells w.heap.size (i * 2) (rWh.all M) := ⟨_, rfl⟩
  have hg2 : W2.heap[w.heap.size]? = some (.cells (wrs cur (i * 2) (rWh.all M)) rWh.t (0, 0)) := by rw [hW2]; exact heap_sets _ W1 _ _ cur _ hg1
  have hk2 : Keeps W1 W2 (fun b => b = w.heap.size) := by rw [hW2]; exact Keeps.sets _ _ _ _
  have hr2 : Row rWh B W2 (.slice (some ⟨g, 0, none⟩) l.length c) l := hk2.row (hown.below hb1) (fun g' hg' e => by simp [Value.ownBlock] at hg'; omega)
  have hcp2 : ∀ dc sc ty, (Builtin.copy_ #[49, 49] ty #[.slice (some ⟨w.heap.size, (i + M.length) * 2, none⟩) (T - (i + M.length)) dc, .slice (some ⟨g, i * 2, none⟩) (l.length - i) sc]).run Try.prog W2.drew = .ok (goInt (l.drop i).length) (W2.drew.setCells w.heap.size ((i + M.length) * 2) (rWh.all (l.drop i))) := fun dc sc ty =>
    copy_row rWh.kin (l.drop i) (by simp only [Nat.min_def, List.length_drop]; split <;> omega) (fun j hj => blk_spare (w := W2.drew) hg2 (by have hj' : j < (l.drop i).length * 2 := hj; have hcs' : cur.size = G * 2 := hcs; rw [List.length_drop] at hj'; rw [wrs_size]; omega)) (fun j u hj => hr2.news i j u hj) ty
  have X : Hid (TurnPrWh w B (.slice (some ⟨g, 0, none⟩) l.length c) (l.take i ++ (M ++ l.drop i)) (.returned (.slice (some ⟨w.heap.size, 0, none⟩) T G)) (W2.drew.setCells w.heap.size ((i + M.length) * 2) (rWh.all (l.drop i)))) := by
    refine ⟨_, rfl, ?_, ?_, fun g' hg' => Or.inr (by simp [Value.ownBlock] at hg'; omega)⟩
    · have h1 := Row.fresh (R := rWh) (l := l) (w := W1) (j := i) hB hg1 hG2 hcs i M (by omega) (by omega) hold (nn := T) (by omega)
      rw [show rWh.n = 2 from rfl, ← hW2] at h1
      refine h1.same fun g' hg' => ?_
      simp [Value.ownBlock] at hg'
      subst hg'
      have a1 := heap_sets (rWh.all (l.drop i)) W2 w.heap.size ((i + M.length) * 2) _ _ hg2
      have a2 := heap_sets (rWh.all (l.drop i)) W2.drew w.heap.size ((i + M.length) * 2) _ _ hg2
      exact a2.trans a1.symm
    · have k3 : Keeps W1 (W2.drew.setCells w.heap.size ((i + M.length) * 2) (rWh.all (l.drop i))) (fun b => b = w.heap.size) := hk2.trans (keeps_drew (Keeps.sets _ W2.drew _ _)) fun _ _ h => h
      exact Keeps.of_below (hb1.trans (k3.below (by rw [hW1]; simp) fun b _ e => by omega)) _
  have hcp1' : Hid (∀ dc ty, (Builtin.copy_ #[49, 49] ty #[.slice (some ⟨w.heap.size, i * 2, none⟩) (T - i) dc, .slice (some ⟨q, 0, none⟩) M.length cq]).run Try.prog W1 = .ok (goInt M.length) W2) := by rw [hW2]; exact hcp1
  have hcp2' : Hid (∀ dc sc ty, (Builtin.copy_ #[49, 49] ty #[.slice (some ⟨w.heap.size, (i + M.length) * 2, none⟩) (T - (i + M.length)) dc, .slice (some ⟨g, i * 2, none⟩) (l.length - i) sc]).run Try.prog W2.drew = .ok (goInt (l.drop i).length) (W2.drew.setCells w.heap.size ((i + M.length) * 2) (rWh.all (l.drop i)))) := hcp2
  have hZ : Hid (∀ ty, (Builtin.append_ #[49, 3] ty #[.slice (some ⟨g, 0, none⟩) i c, .int .i64 ((l.length : Int) + (M.length : Int) - (i : Int))]).run Try.prog w = .ok (.slice (some ⟨w.heap.size, 0, none⟩) T G) W1) := hz
  have hq1 : ¬ (G = i) := by omega
  have hq2 : ¬ (G = i + M.length) := by omega
  have hq3 : i + M.length ≤ G := by omega
  have hq4 : i ≤ T := by omega
  have hq5 : i + M.length ≤ T := by omega
  have hq6 : T ≤ G := by omega
  have hw1 : IntKind.i64.wrap ((i : Int) + (M.length : Int)) = (i : Int) + (M.length : Int) := by rw [IntKind.wrap_i64]; omega
  have hb1' : (0 : Int) ≤ (i : Int) + (M.length : Int) := by omega
  have hb2' : (i : Int) + (M.length : Int) ≤ (T : Int) := by omega
  have hb3' : (i : Int) ≤ (l.length : Int) := by omega
  have htn : ((i : Int) + (M.length : Int)).toNat = i + M.length := by omega
  have hG3 : G ≤ 9223372036854775807 := by unfold maxLen at hG2; omega
  clear hk hkz hT hcp1 hcp2 hz hW1 hW2 hg1 hg2 hk2 hr2 hb1 hown hsrc hc0 hg0 hs0 hold hcs hG2 hcm hlt hltq
  go_enter Try.func30, Try.ntmps30
  go_wp2_with (first | (at_builtin; refine Lib.wpList_append_run _ rfl _ _ _ _ rfl _ _ rfl rfl _ _ (hZ.out _) ?_) | (refine list_copyR _ rfl _ _ rfl _ _ rfl rfl (hcp1'.out _) ?_))
  go_region_law (refine step_copyR rfl _ _ rfl (.slice (some ⟨w.heap.size, (i + M.length) * 2, none⟩) (T - (i + M.length)) (G - (i + M.length))) (.slice (some ⟨g, i * 2, none⟩) (l.length - i) (c - i)) (by simp [Act.eval, Act.put]) (by simp [Act.eval, Act.put]) (hcp2'.out _ _) ?_)
  go_wp2
  go_ret
  exact X.out

set_option maxRecDepth 100000 in
set_option maxHeartbeats 4000000 in
/-- There is room: in place. -/
theorem insertR_rWh {B : Nat} {w : World} {g c q cq : Nat} {l M : List Rw} (hown : Row rWh B w (.slice (some ⟨g, 0, none⟩) l.length c) l) (hsrc : Row rWh 0 w (.slice (some ⟨q, 0, none⟩) M.length cq) M) (hqg : q ≠ g) (hM : 0 < M.length) (hm : l.length + M.length ≤ 4096)
    (i : Nat) (hi : i < l.length) (hroom : l.length + M.length ≤ c) :
    Calls Try.prog 30 #[.slice (some ⟨g, 0, none⟩) l.length c, .int .i64 i, .slice (some ⟨q, 0, none⟩) M.length cq] w (TurnPrWh w B (.slice (some ⟨g, 0, none⟩) l.length c) (l.take i ++ (M ++ l.drop i))) := by
  obtain ⟨_, _, hlt, cur0, hg0, hlc, hcm, hs0, hc0⟩ := hown.cur
  obtain ⟨_, _, hltq, _⟩ := hsrc.cur
  have hz1 : ¬ ((M.length : Int) = 0) := by omega
  have hz2 : ¬ ((i : Int) = (l.length : Int)) := by omega
  have hcm' : c ≤ 9223372036854775807 := by unfold maxLen at hcm; omega
  have hci : ¬ (c = i) := by omega
  obtain ⟨kA, hsa⟩ := hsrc.shape (by omega)
  obtain ⟨kB, hsb⟩ := hown.shape (by omega)
  have hsz : ∀ w, (sizeOf 28).run Try.prog w = .ok 2 w := fun w => by
    obtain ⟨i0, z0, hi0, hz0, hz1, _⟩ := rWh.kin.inf
    have hi0' : Try.prog.info? 28 = some i0 := hi0
    have hz1' : i0.size = 2 := hz1
    simp [sizeOf, typeInfo, hi0', hz1']
  have hov : ∀ lb cb, (callFunc 40 #[.slice (some ⟨q, 0, none⟩) M.length cq, .slice (some ⟨g, (i + M.length) * 2, none⟩) lb cb]).run Try.prog w = .ok (.value (.bool false)) w := fun lb cb => by
    rw [run_callFunc_extern Try.func40 (by kernel_rfl) (by kernel_rfl) (by kernel_rfl) (e := Extern.SlicesOverlaps.overlaps #[49, 49] #[4]) (by kernel_rfl),
      Lib.run_overlaps_apart w 49 4 28 Try.underlying49 2 hsz ⟨q, 0, none⟩ ⟨g, (i + M.length) * 2, none⟩ M.length cq lb cb hqg _ _ _ _ hsa hsb (by omega) (hsrc.frozen 0) (hsrc.frozen _)]
    rfl
  obtain ⟨W1, hW1⟩ : ∃ W1, W1 = w.drew.setCells g ((i + M.length) * 2) (rWh.all (l.drop i)) := ⟨_, rfl⟩
  have hcp1 : ∀ dc sc ty, (Builtin.copy_ #[49, 49] ty #[.slice (some ⟨g, (i + M.length) * 2, none⟩) (l.length + M.length - (i + M.length)) dc, .slice (some ⟨g, i * 2, none⟩) (l.length + M.length - i) sc]).run Try.prog w.drew = .ok (goInt (l.drop i).length) W1 := fun dc sc ty => by
    rw [hW1]
    exact copy_row (W := w.drew) rWh.kin (l.drop i) (by simp only [Nat.min_def, List.length_drop]; split <;> omega) (fun j hj => (hown.below (Below.refl _ _).drew).spare ((i + M.length) * 2 + j) (by have hj' : j < (l.drop i).length * 2 := hj; rw [List.length_drop] at hj'; show _ < c * 2; omega)) (fun j u hj => hown.news i j u hj) ty
  have hk1 : Keeps w W1 (fun b => b = g) := by rw [hW1]; exact keeps_drew (Keeps.sets _ _ _ _)
  have hg1 : W1.heap[g]? = some (.cells (wrs cur0 ((i + M.length) * 2) (rWh.all (l.drop i))) rWh.t (0, 0)) := by rw [hW1]; exact heap_sets _ w.drew _ _ cur0 _ hg0
  have hcp2 : ∀ dc ty, (Builtin.copy_ #[49, 49] ty #[.slice (some ⟨g, i * 2, none⟩) (l.length + M.length - i) dc, .slice (some ⟨q, 0, none⟩) M.length cq]).run Try.prog W1 = .ok (goInt M.length) (W1.setCells g (i * 2) (rWh.all M)) := fun dc ty =>
    copy_row rWh.kin M (by simp only [Nat.min_def]; split <;> omega) (fun j hj => blk_spare hg1 (by have hj' : j < M.length * 2 := hj; have hcs' : cur0.size = c * 2 := hs0; rw [wrs_size]; omega)) (fun j u hj => by
      have := (hk1.row hsrc (fun g' hg' e => by simp [Value.ownBlock] at hg'; omega)).news 0 j u (by simpa using hj)
      simpa using this) ty
  have X : Hid (TurnPrWh w B (.slice (some ⟨g, 0, none⟩) l.length c) (l.take i ++ (M ++ l.drop i)) (.returned (.slice (some ⟨g, 0, none⟩) (l.length + M.length) c)) (W1.setCells g (i * 2) (rWh.all M))) := by
    refine ⟨_, rfl, ?_, keeps_own (hk1.trans (Keeps.sets _ W1 _ _) fun _ _ h => h), fun g' hg' => Or.inl hg'⟩
    rw [hW1]
    exact Row.repl (R := rWh) (w := w.drew) (hown.below (Below.refl _ _).drew) i i M (by omega) (by omega) (by omega)
  have hcp1' : Hid (∀ dc sc ty, (Builtin.copy_ #[49, 49] ty #[.slice (some ⟨g, (i + M.length) * 2, none⟩) (l.length + M.length - (i + M.length)) dc, .slice (some ⟨g, i * 2, none⟩) (l.length + M.length - i) sc]).run Try.prog w.drew = .ok (goInt (l.drop i).length) W1) := hcp1
  have hcp2' : Hid (∀ dc ty, (Builtin.copy_ #[49, 49] ty #[.slice (some ⟨g, i * 2, none⟩) (l.length + M.length - i) dc, .slice (some ⟨q, 0, none⟩) M.length cq]).run Try.prog W1 = .ok (goInt M.length) (W1.setCells g (i * 2) (rWh.all M))) := hcp2
  have hw1 : IntKind.i64.wrap ((i : Int) + (M.length : Int)) = (i : Int) + (M.length : Int) := by rw [IntKind.wrap_i64]; omega
  have hb1 : (0 : Int) ≤ (i : Int) + (M.length : Int) := by omega
  have hin : i ≤ l.length := by omega
  have htn : ((i : Int) + (M.length : Int)).toNat = i + M.length := by omega
  have hb2 : ¬ (c = i + M.length) := by omega
  have hb3 : (i : Int) ≤ (l.length : Int) + (M.length : Int) := by omega
  have hb4 : ¬ (c = i) := by omega
  clear hcp1 hcp2 hW1 hg1 hk1 hown hsrc hc0 hg0 hs0 hcm hlt hltq hsa hsb hsz
  go_enter Try.func30, Try.ntmps30
  go_wp2_with (simp only [hov])
  go_region_law (refine step_copyR rfl _ _ rfl (.slice (some ⟨g, (i + M.length) * 2, none⟩) (l.length + M.length - (i + M.length)) (c - (i + M.length))) (.slice (some ⟨g, i * 2, none⟩) (l.length + M.length - i) (c - i)) (by simp [Act.eval, Act.put]) (by simp [Act.eval, Act.put]) (hcp1'.out _ _) ?_)
  go_wp2_with (refine list_copyR _ rfl _ _ rfl _ _ rfl rfl (hcp2'.out _) ?_)
  go_ret
  exact X.out

/-- Insert, all its ways. -/
theorem insert_rWh {B : Nat} {w : World} {v : Value} {q cq : Nat} {l M : List Rw} (hown : Row rWh B w v l) (hsrc : Row rWh 0 w (.slice (some ⟨q, 0, none⟩) M.length cq) M) (hq : v.ownBlock ≠ some q) (hM : 0 < M.length) (hm : l.length + M.length ≤ 4096) (hB : B ≤ w.heap.size)
    (i : Nat) (hi : i ≤ l.length) :
    Calls Try.prog 30 #[v, .int .i64 i, .slice (some ⟨q, 0, none⟩) M.length cq] w (TurnPrWh w B v (l.take i ++ (M ++ l.drop i))) := by
  by_cases h : i = l.length
  · subst h
    have := insertE_rWh hown hsrc hM hm hB
    simpa using this
  · rcases hown.cases with ⟨rfl, rfl⟩ | ⟨g, c, cur, rfl, _, _, _, h1, h2, _⟩
    · simp at hi
      simp [hi] at h
    · rcases Nat.lt_or_ge c (l.length + M.length) with hc | hc
      · exact insertN_rWh hown hsrc hM hm hB i (by omega) hc
      · exact insertR_rWh hown hsrc (fun e => hq (by rw [e]; rfl)) hM hm i (by omega) hc
end Go.Proofs.Ytdeaniigimmoaaa
/- New, Frame, Count, Of. -/
namespace Go.Proofs.Ytdeaniigimmoaaa
open Go.RowKit

theorem rm_new (w : World) : Bec (fun _ => False) w (RmT (w.heap.size + 2) []) (((w.alloc (.map #[] 0)).alloc (.map #[] 0)).alloc (.cells #[.map (some w.heap.size), .map (some (w.heap.size + 1))] 59)) := by
  have a : Bec (fun _ => False) w (.mp ffM w.heap.size []) (w.alloc (.map #[] 0)) := mp_new (Mp.made ffM w) (Nat.le_refl _) (new_below _ _)
  have a' : Bec (fun _ => False) w (FrT w.heap.size (lk2 [])) (w.alloc (.map #[] 0)) := a.imp fun {F' w'} k => ⟨[], rfl, emp_and _ k⟩
  have b : Bec (fun _ => False) (w.alloc (.map #[] 0)) (.mp whM (w.heap.size + 1) []) ((w.alloc (.map #[] 0)).alloc (.map #[] 0)) := by
    have := mp_new (M := whM) (w := w.alloc (.map #[] 0)) (Mp.made whM (w.alloc (.map #[] 0))) (Nat.le_refl _) (new_below _ _)
    rwa [heap_alloc2_rWh] at this
  have b' : Bec (fun _ => False) (w.alloc (.map #[] 0)) (PgT (w.heap.size + 1) (lkP [])) ((w.alloc (.map #[] 0)).alloc (.map #[] 0)) := b.imp fun {F' w'} k => ⟨[], ⟨rfl, by simp⟩, emp_and _ k⟩
  have c := box_new ((w.alloc (.map #[] 0)).alloc (.map #[] 0)) 59 #[.map (some w.heap.size), .map (some (w.heap.size + 1))]
  rw [heap_alloc2_rWh, heap_alloc2_rWh] at c
  refine ((a'.new b').new c).imp fun {F' w'} k => ⟨(w.heap.size, w.heap.size + 1), ⟨⟨List.Pairwise.nil, by simp⟩, by simp⟩, ?_⟩
  exact and_mono (Th.le.refl _) (and_comm _ _) k
/-- What New tells. -/
def NewP (w : World) (e : Ending) (w' : World) : Prop := ∃ m, e = .returned (.pointer (some ⟨m, 0, none⟩)) ∧ Hid (Bec (fun _ => False) w (RmT m []) w')
set_option maxHeartbeats 1000000 in
theorem new_any (w : World) : Calls Try.prog 8 #[] w (NewP w) := by
  have hmm := @run_makeMap Try.prog
  have HE : Hid _ := rm_new w
  go_enter Try.func8, Try.ntmps8
  go_wp2
  go_ret
  exact ⟨_, rfl, HE⟩

section
variable {A : Nat → Prop} {w W : World} {m bf bp : Nat} {F : Fr} {G : Pg} {s p f : Int} {l : List Rw}
def errV (c : Int) : Value := if c = 0 then .nilIface else .iface 37 (.int .i64 c)
theorem errV0 : errV 0 = .nilIface := rfl
theorem errV_ne {c : Int} (h : c ≠ 0) : errV c = .iface 37 (.int .i64 c) := if_neg h
def frV : Option Int → Value
  | none => .tuple #[.int .i64 0, .iface 37 (.int .i64 3)]
  | some x => .tuple #[.int .i64 x, .nilIface]
/-- What a page's look-up tells. -/
theorem fr_get (h : (FrT bf F).In A w) (s p : Int) (hs : okI s) (hp : okI p) {x : Int} (hx : F s p = some x) : ∃ g : Nat, (∀ W, Below w.heap.size w W → (Instr.lookup 56 (.map (some bf)) (.int .i64 s) false).run Try.prog W = .ok (.map (some g)) W) ∧ (∀ W, Below w.heap.size w W → (Instr.lookup 76 (.map (some g)) (.int .i64 p) false).run Try.prog W = .ok (.int .i64 x) W) := by
  obtain ⟨L, rfl, h⟩ := h
  have hm := MX.mp h
  unfold lk2 at hx
  obtain ⟨⟨g, es⟩, e, hx⟩ := Option.bind_eq_some_iff.1 hx
  obtain ⟨C, h1, _⟩ := mx_open h e
  refine ⟨g, fun W hb => ?_, fun W hb => ?_⟩
  · have := get_ff (hm.same (hb.block _ hm.lt)) hs
    rw [e] at this
    exact this
  · have := get_pp (h1.2.same (hb.block _ h1.2.lt)) hp
    rw [hx] at this
    exact this
set_option maxRecDepth 100000 in
set_option maxHeartbeats 4000000 in
theorem frame_x (h : (RmX m bf bp F G).In A w) (hs : okI s) (hp : okI p) :
    Calls Try.prog 21 #[.pointer (some ⟨m, 0, none⟩), wv s p] w fun e w' => e = .returned (frV (F s p)) ∧ Hid (Below w.heap.size w w') := by
  obtain ⟨A1, h1, h2⟩ := (rb_start h s p).next
  have hb0 := new_below w (.cells #[.int .i64 s, .int .i64 p] 28)
  have HB0 : Hid (Below w.heap.size w (w.alloc (.cells #[.int .i64 s, .int .i64 p] 28))) := hb0
  have HY : Hid ((RmB w.heap.size s p m bf bp F G).In A1 (w.alloc (.cells #[.int .i64 s, .int .i64 p] 28))) := h1
  obtain ⟨D, g1, -⟩ := In.open (and_comm _ _ h1)
  have hh := has_any g1 hs hp
  cases e : F s p with
  | none =>
    rw [e] at hh
    unfold wv at hh ⊢
    obtain ⟨c0, -, x0, x1⟩ := rb_cells h1
    clear h h1 h2 hb0 g1 e
    generalize hW : w.alloc (.cells #[.int .i64 s, .int .i64 p] 28) = W at *
    go_enter Try.func21, Try.ntmps21
    go_wp2_with fail
    refine hh.mono ?_
    rintro e w1 ⟨rfl, HB1⟩
    go_wp2
    go_ret2
    exact ⟨rfl, below_call' HB0.out HB1.out⟩
  | some x =>
    rw [e] at hh
    obtain ⟨C, hf⟩ := RmX.fr g1
    obtain ⟨g, q1, q2⟩ := fr_get hf s p hs hp e
    have HQ : Hid (∀ W, Below (w.alloc (.cells #[.int .i64 s, .int .i64 p] 28)).heap.size (w.alloc (.cells #[.int .i64 s, .int .i64 p] 28)) W → (Instr.lookup 56 (.map (some bf)) (.int .i64 s) false).run Try.prog W = .ok (.map (some g)) W ∧ (Instr.lookup 76 (.map (some g)) (.int .i64 p) false).run Try.prog W = .ok (.int .i64 x) W) := fun W hb => ⟨q1 W hb, q2 W hb⟩
    unfold wv at hh ⊢
    obtain ⟨c0, -, x0, x1⟩ := rb_cells h1
    obtain ⟨lm, lb⟩ := rb_lt h1
    clear h h1 h2 hb0 g1 e hf q1 q2
    generalize hW : w.alloc (.cells #[.int .i64 s, .int .i64 p] 28) = W at *
    go_enter Try.func21, Try.ntmps21
    go_wp2_with fail
    refine hh.mono ?_
    rintro e w1 ⟨rfl, HB1⟩
    have d0 : w1.cell? ⟨m, 0, none⟩ = some (.map (some bf)) := ((bcell HB1.out).1 _ _ lm).trans c0
    have y0 : w1.cell? ⟨w.heap.size, 0, none⟩ = some (.int .i64 s) := ((bcell HB1.out).1 _ _ lb).trans x0
    have y1 : w1.cell? ⟨w.heap.size, 1, none⟩ = some (.int .i64 p) := ((bcell HB1.out).1 _ _ lb).trans x1
    obtain ⟨q1, q2⟩ := HQ.out w1.drew HB1.out.drew
    go_wp2
    go_region
    go_wp2
    go_ret2
    exact ⟨rfl, (below_call' HB0.out HB1.out).drew⟩
theorem frame_any (h : (RmT m l).In A w) (hs : okI s) (hp : okI p) :
    Calls Try.prog 21 #[.pointer (some ⟨m, 0, none⟩), wv s p] w fun e w' => e = .returned (frV (frF l s p)) ∧ Hid (Below w.heap.size w w') := by
  obtain ⟨⟨bf, bp⟩, _, h⟩ := h
  exact frame_x h hs hp
/-- Where a frame's pages lie. -/
theorem pg_see (h : (PgT bp G).In A w) (hf : okI f) : ∃ v, (∀ W, Below w.heap.size w W → (Instr.lookup 57 (.map (some bp)) (.int .i64 f) false).run Try.prog W = .ok v W) ∧ Row rWh 0 w v (G f) := by
  obtain ⟨L, ⟨rfl, -⟩, h⟩ := h
  have hm := MX.mp h
  cases e : getL L f with
  | none =>
    refine ⟨.slice none 0 0, fun W hb => ?_, ?_⟩
    · have := get_wh (hm.same (hb.block _ hm.lt)) hf
      rw [e] at this
      exact this
    · rw [show lkP L f = [] by unfold lkP; rw [e]]
      exact Row.nil _ _ _
  | some x =>
    obtain ⟨C, h1, -⟩ := mx_open h e
    refine ⟨x.1, fun W hb => ?_, ?_⟩
    · have := get_wh (hm.same (hb.block _ hm.lt)) hf
      rw [e] at this
      exact this
    · rw [show lkP L f = x.2 by unfold lkP; rw [e]]
      exact h1.2
set_option maxHeartbeats 1000000 in
theorem count_x (h : (RmX m bf bp F G).In A w) (hf : okI f) :
    Calls Try.prog 20 #[.pointer (some ⟨m, 0, none⟩), .int .i64 f] w fun e w' => e = .returned (.int .i64 (G f).length) ∧ w' = w := by
  obtain ⟨C, hg⟩ := RmX.pg h
  obtain ⟨v, q1, q2⟩ := pg_see hg hf
  have q3 := q1 w (Below.refl _ _)
  obtain ⟨ao, c, rfl⟩ := q2.form
  have c0 : w.cell? ⟨m, 1, none⟩ = some (.map (some bp)) := by rw [(RmX.box h).cell]; rfl
  clear h hg q1 q2 hf
  go_enter Try.func20, Try.ntmps20
  go_wp2
  go_ret
  exact ⟨rfl, rfl⟩
theorem count_any (h : (RmT m l).In A w) (hf : okI f) : Calls Try.prog 20 #[.pointer (some ⟨m, 0, none⟩), .int .i64 f] w fun e w' => e = .returned (.int .i64 (ofR l f).length) ∧ w' = w := by
  obtain ⟨⟨bf, bp⟩, _, h⟩ := h
  exact count_x h hf
/-- What Of tells: a row of its own. -/
def RowP {α : Type} (R : Rec α) (w : World) (l : List α) (e : Ending) (w' : World) : Prop := ∃ ao c, e = .returned (.slice ao l.length c) ∧ Hid (Bec (fun _ => False) w (.row R (.slice ao l.length c) l) w')
set_option maxHeartbeats 1000000 in
theorem of_any (h : (RmT m l).In A w) (hf : okI f) : Calls Try.prog 19 #[.pointer (some ⟨m, 0, none⟩), .int .i64 f] w (RowP rWh w (ofR l f)) := by
  obtain ⟨⟨bf, bp⟩, hl, h⟩ := h
  obtain ⟨C, hg⟩ := RmX.pg h
  obtain ⟨v, q1, q2⟩ := pg_see hg hf
  have q3 := q1 w (Below.refl _ _)
  have c0 : w.cell? ⟨m, 1, none⟩ = some (.map (some bp)) := by rw [(RmX.box h).cell]; rfl
  have hc := clone_rWh q2 (by have := of_len l f; have := hl.2; omega)
  obtain ⟨ao, c, rfl⟩ := q2.form
  clear h hg q1 q2 hf hl
  go_enter Try.func19, Try.ntmps19
  go_wp2_with fail
  refine hc.mono ?_
  rintro e w1 ⟨v1, rfl, hr, hb⟩
  obtain ⟨a1, c1, rfl⟩ := hr.form
  have HE : Hid (Bec (fun _ => False) w (.row rWh (.slice a1 (ofR l f).length c1) (ofR l f)) w1) := row_new hr hb
  clear hr hb hc
  go_wp2
  go_ret
  exact ⟨a1, c1, rfl, HE⟩
end
end Go.Proofs.Ytdeaniigimmoaaa
/- slices.BinarySearchFunc over rising pages. -/
namespace Go.Proofs.Ytdeaniigimmoaaa
open Go.RowKit

theorem below_drewN {B : Nat} {a w : World} (h : Below B a w) (n : Nat) : Below B a (w.drewN n) := ⟨h.os, h.tape, h.output, h.size, h.block⟩
def BsP (w : World) (L : List Rw) (x : Rw) (e : Ending) (w' : World) : Prop := ∃ (i : Nat) (b : Bool), e = .returned (.tuple #[.int .i64 i, .bool b]) ∧ Hid (PosR L x i) ∧ Hid (Below w.heap.size w w')
set_option maxRecDepth 100000 in
set_option maxHeartbeats 4000000 in
theorem bsearch_any {w : World} {v : Value} {L : List Rw} (hr : Row rWh 0 w v L) (hL : RisR L) (hm : L.length ≤ 4096) (x : Rw) :
    Calls Try.prog 28 #[v, wv x.s x.p, .func (.func 29) #[] #[]] w (BsP w L x) := by
  have hb0 := new_below w (.cells #[.int .i64 x.s, .int .i64 x.p] 28)
  have HX0 : Laid (w.alloc (.cells #[.int .i64 x.s, .int .i64 x.p] 28)) w.heap.size 28 #[.int .i64 x.s, .int .i64 x.p] := Laid.new _ _ _
  have HR : Hid (Row rWh 0 (w.alloc (.cells #[.int .i64 x.s, .int .i64 x.p] 28)) v L) := hr.below hb0
  obtain ⟨ao, c, rfl⟩ := hr.form
  have HB0 : Hid (Below w.heap.size w (w.alloc (.cells #[.int .i64 x.s, .int .i64 x.p] 28))) := hb0
  have hXl := HX0.lt
  have HC : Hid (∀ W, Below (w.alloc (.cells #[.int .i64 x.s, .int .i64 x.p] 28)).heap.size (w.alloc (.cells #[.int .i64 x.s, .int .i64 x.p] 28)) W → W.cell? ⟨w.heap.size, 0, none⟩ = some (.int .i64 x.s) ∧ W.cell? ⟨w.heap.size, 1, none⟩ = some (.int .i64 x.p)) := fun W hb => ⟨by rw [hb.cell hXl, HX0.cell]; rfl, by rw [hb.cell hXl, HX0.cell]; rfl⟩
  have HL : Hid (RisR L) := hL
  have hlen9 : L.length ≤ 9223372036854775807 := by omega
  unfold wv
  clear hr hb0 HX0 hL hXl
  have HM : Hid (L.length ≤ 4096) := hm
  clear hm
  have eg : ∀ args w, (callFunc 29 args).run Try.prog w = .ok (.enter 29 args) w := enters_of Try.func29 (by kernel_rfl) rfl
  go_enter Try.func28, Try.ntmps28
  go_wp2
  generalize w.alloc (.cells #[.int .i64 x.s, .int .i64 x.p] 28) = W at *
  go_loopw [9, 10] (fun a b wr => ∃ lo hi : Nat, a = .int .i64 lo ∧ b = .int .i64 hi ∧ Hid ((∀ j, j < lo → (L.getD j zR).lt x) ∧ ∀ j, hi ≤ j → j < L.length → ¬ (L.getD j zR).lt x) ∧ lo ≤ hi ∧ hi ≤ L.length ∧ Hid (Below W.heap.size W wr)) (fun a b _ => (intOf b).toNat - (intOf a).toNat)
  case atStart => exact ⟨0, L.length, rfl, rfl, ⟨fun j hj => by omega, fun j h1 h2 => by omega⟩, Nat.zero_le _, Nat.le_refl _, Below.refl _ _⟩
  case round =>
    obtain ⟨lo, hi, rfl, rfl, g1, g2, g3, hb⟩ := hrel
    by_cases hlt : lo < hi
    · obtain ⟨k, hk⟩ : ∃ k, k = (lo + hi) / 2 := ⟨_, rfl⟩
      have hk1 : ((lo : Int) + (hi : Int)) / 2 = (k : Int) := by omega
      have hkl : lo ≤ k := by omega
      have hw0 : wrap64 ((lo : Int) + (hi : Int)) = (lo : Int) + (hi : Int) := IntWalk.wrap64_in _ (by have := HM.out; omega)
      have hw1 : IntKind.u64.wrap (wrap64 ((lo : Int) + (hi : Int))) / 2 = (k : Int) := by rw [hw0, IntKind.wrap_u64]; have := HM.out; omega
      have hw2 : wrap64 (k : Int) = (k : Int) := IntWalk.wrap64_in _ (by have := HM.out; omega)
      have hkh : k < hi := by omega
      have hkL : (k : Int) < (L.length : Int) := by omega
      have hk0 : (0 : Int) ≤ (k : Int) := by omega
      obtain ⟨g, rfl, _, _, hgl, _, _, hat⟩ := HR.out.at (show k < L.length by omega)
      obtain ⟨y0, y1⟩ := rWh.at (hat.same (hb.out.block g hgl))
      simp only [show rWh.n = 2 from rfl, show rWh.zero = zR from rfl] at y0 y1
      obtain ⟨x0, x1⟩ := HC.out wr hb.out
      obtain ⟨o, ho⟩ : ∃ o, o = ordI (L.getD k zR) x := ⟨_, rfl⟩
      have hS : ∀ w', Below wr.heap.size wr w' → w'.cell? ⟨g, k * 2, none⟩ = some (.int .i64 (L.getD k zR).s) ∧ w'.cell? ⟨g, k * 2 + 1, none⟩ = some (.int .i64 (L.getD k zR).p) ∧ w'.cell? ⟨w.heap.size, 0, none⟩ = some (.int .i64 x.s) ∧ w'.cell? ⟨w.heap.size, 1, none⟩ = some (.int .i64 x.p) := fun w' hb' => ⟨(World.cell?_of_block (hb'.block g (by have := hb.out.size; omega))).trans y0, (World.cell?_of_block (hb'.block g (by have := hb.out.size; omega))).trans y1, HC.out w' (below_call' hb.out hb')⟩
      have hc : Hid (∀ W', Below wr.heap.size wr W' → Calls Try.prog 29 #[.agg #[.int .i64 (L.getD k zR).s, .int .i64 (L.getD k zR).p], .agg #[.int .i64 x.s, .int .i64 x.p]] W' fun e w' => e = .returned (.int .i64 o) ∧ (w'.cell? ⟨g, k * 2, none⟩ = some (.int .i64 (L.getD k zR).s) ∧ w'.cell? ⟨g, k * 2 + 1, none⟩ = some (.int .i64 (L.getD k zR).p) ∧ w'.cell? ⟨w.heap.size, 0, none⟩ = some (.int .i64 x.s) ∧ w'.cell? ⟨w.heap.size, 1, none⟩ = some (.int .i64 x.p)) ∧ Hid (Below wr.heap.size wr w')) := fun W' hb' => by
        rw [ho]
        refine (show Calls Try.prog 29 #[.agg #[.int .i64 (L.getD k zR).s, .int .i64 (L.getD k zR).p], .agg #[.int .i64 x.s, .int .i64 x.p]] W' _ from order_any (L.getD k zR) x W').mono ?_
        rintro e w1 ⟨rfl, hb1⟩
        exact ⟨rfl, hS _ (below_call' hb' hb1.out), below_call' hb' hb1.out⟩
      have HO : Hid (o = ordI (L.getD k zR) x) := ho
      have HK : Hid (k = (lo + hi) / 2) := hk
      clear hat hgl ho hk hw0 hk1 hS
      by_cases hm : o < 0
      · have HN : Hid ((∀ j, j < k + 1 → (L.getD j zR).lt x)) := fun j hj => by
          have h1 : (L.getD k zR).lt x := (ord_lt _ _).1 (by rw [← HO.out]; exact hm)
          by_cases e : j = k
          · rw [e]; exact h1
          · exact Rw.lt_trans (ris_at HL.out (by omega) (by omega)) h1
        go_wp2_with fail
        go_region_held3 (fun w' => w'.cell? ⟨g, k * 2, none⟩ = some (.int .i64 (L.getD k zR).s) ∧ w'.cell? ⟨g, k * 2 + 1, none⟩ = some (.int .i64 (L.getD k zR).p) ∧ w'.cell? ⟨w.heap.size, 0, none⟩ = some (.int .i64 x.s) ∧ w'.cell? ⟨w.heap.size, 1, none⟩ = some (.int .i64 x.p)) (go_keep) (first | (go_at_fn 29; refine (hc.out _ ?q1).mono ?_; (case q1 => first | exact Below.refl _ _ | exact (Below.refl _ _).drew); rintro e w1 ⟨rfl, ⟨z0, z1, z2, z3⟩, HB1⟩))
        go_wp2
        go_roundw
        case rel => exact ⟨k + 1, hi, by go_num, rfl, ⟨HN.out, g1.out.2⟩, by omega, g3, below_call' hb.out HB1.out⟩
        case measure => simp only [intOf]; omega
      · have HN : Hid (∀ j, k ≤ j → j < L.length → ¬ (L.getD j zR).lt x) := fun j h1 h2 h3 => by
          have h4 : ¬ (L.getD k zR).lt x := fun h => hm (by rw [HO.out]; exact (ord_lt _ _).2 h)
          by_cases e : j = k
          · exact h4 (by rw [← e]; exact h3)
          · exact h4 (Rw.lt_trans (ris_at HL.out (by omega) h2) h3)
        go_wp2_with fail
        go_region_held3 (fun w' => w'.cell? ⟨g, k * 2, none⟩ = some (.int .i64 (L.getD k zR).s) ∧ w'.cell? ⟨g, k * 2 + 1, none⟩ = some (.int .i64 (L.getD k zR).p) ∧ w'.cell? ⟨w.heap.size, 0, none⟩ = some (.int .i64 x.s) ∧ w'.cell? ⟨w.heap.size, 1, none⟩ = some (.int .i64 x.p)) (go_keep) (first | (go_at_fn 29; refine (hc.out _ ?q1).mono ?_; (case q1 => first | exact Below.refl _ _ | exact (Below.refl _ _).drew); rintro e w1 ⟨rfl, ⟨z0, z1, z2, z3⟩, HB1⟩))
        go_wp2
        go_roundw
        case rel => exact ⟨lo, k, rfl, rfl, ⟨g1.out.1, HN.out⟩, hkl, by omega, below_call' hb.out HB1.out⟩
        case measure => simp only [intOf]; omega
    · obtain rfl : lo = hi := by omega
      have HP : Hid (PosR L x lo) := ⟨g3, g1.out.1, g1.out.2⟩
      by_cases hlL : lo < L.length
      · have hkL : (lo : Int) < (L.length : Int) := by omega
        have hk0 : (0 : Int) ≤ (lo : Int) := by omega
        obtain ⟨g, rfl, _, _, hgl, _, _, hat⟩ := HR.out.at hlL
        obtain ⟨y0, y1⟩ := rWh.at (hat.same (hb.out.block g hgl))
        simp only [show rWh.n = 2 from rfl, show rWh.zero = zR from rfl] at y0 y1
        obtain ⟨x0, x1⟩ := HC.out wr hb.out
        have hS : ∀ w', Below wr.heap.size wr w' → w'.cell? ⟨g, lo * 2, none⟩ = some (.int .i64 (L.getD lo zR).s) ∧ w'.cell? ⟨g, lo * 2 + 1, none⟩ = some (.int .i64 (L.getD lo zR).p) ∧ w'.cell? ⟨w.heap.size, 0, none⟩ = some (.int .i64 x.s) ∧ w'.cell? ⟨w.heap.size, 1, none⟩ = some (.int .i64 x.p) := fun w' hb' => ⟨(World.cell?_of_block (hb'.block g (by have := hb.out.size; omega))).trans y0, (World.cell?_of_block (hb'.block g (by have := hb.out.size; omega))).trans y1, HC.out w' (below_call' hb.out hb')⟩
        obtain ⟨o, ho⟩ : ∃ o, o = ordI (L.getD lo zR) x := ⟨_, rfl⟩
        have hc : Hid (∀ W', Below wr.heap.size wr W' → Calls Try.prog 29 #[.agg #[.int .i64 (L.getD lo zR).s, .int .i64 (L.getD lo zR).p], .agg #[.int .i64 x.s, .int .i64 x.p]] W' fun e w' => e = .returned (.int .i64 o) ∧ (w'.cell? ⟨g, lo * 2, none⟩ = some (.int .i64 (L.getD lo zR).s) ∧ w'.cell? ⟨g, lo * 2 + 1, none⟩ = some (.int .i64 (L.getD lo zR).p) ∧ w'.cell? ⟨w.heap.size, 0, none⟩ = some (.int .i64 x.s) ∧ w'.cell? ⟨w.heap.size, 1, none⟩ = some (.int .i64 x.p)) ∧ Hid (Below wr.heap.size wr w')) := fun W' hb' => by
          rw [ho]
          refine (show Calls Try.prog 29 #[.agg #[.int .i64 (L.getD lo zR).s, .int .i64 (L.getD lo zR).p], .agg #[.int .i64 x.s, .int .i64 x.p]] W' _ from order_any (L.getD lo zR) x W').mono ?_
          rintro e w1 ⟨rfl, hb1⟩
          exact ⟨rfl, hS _ (below_call' hb' hb1.out), below_call' hb' hb1.out⟩
        have hbt : decide (lo < L.length) = true := by simp; exact hlL
        clear hat hgl ho hS g1 g2 g3 hlt
        generalize L.getD lo zR = y at *
        go_wp2_with fail
        refine wp_region_X (fun w' => w'.cell? ⟨g, lo * 2, none⟩ = some (.int .i64 y.s) ∧ w'.cell? ⟨g, lo * 2 + 1, none⟩ = some (.int .i64 y.p) ∧ w'.cell? ⟨w.heap.size, 0, none⟩ = some (.int .i64 x.s) ∧ w'.cell? ⟨w.heap.size, 1, none⟩ = some (.int .i64 x.p)) [] (by kernel_rfl) ?_
        have hHeld : wr.drew.cell? ⟨g, lo * 2, none⟩ = some (.int .i64 y.s) ∧ wr.drew.cell? ⟨g, lo * 2 + 1, none⟩ = some (.int .i64 y.p) ∧ wr.drew.cell? ⟨w.heap.size, 0, none⟩ = some (.int .i64 x.s) ∧ wr.drew.cell? ⟨w.heap.size, 1, none⟩ = some (.int .i64 x.p) := ⟨y0, y1, x0, x1⟩
        refine wpAnyX_take (i := 0) (v := ?v0) rfl (by kernel_rfl) (by kernel_rfl) (by kernel_rfl) (by kernel_rfl) (by kernel_rfl) (fun _ _ _ h => h) (Or.inl ⟨by rfl, ?hy0⟩) hHeld ?rest0
        case hy0 => intro w hSw; (try dsimp only at hSw); go_simp; try with_reducible rfl
        case rest0 =>
        simp only [Act.put, List.setIfInBounds_toArray, List.set_cons_zero, List.set_cons_succ, List.getElem_toArray, List.getElem_cons_zero]
        refine wpAnyX_take (i := 1) (v := ?v1) rfl (by kernel_rfl) (by kernel_rfl) (by kernel_rfl) (by kernel_rfl) (by kernel_rfl) (fun _ _ _ h => h) (Or.inl ⟨by rfl, ?hy1⟩) hHeld ?rest1
        case hy1 => intro w hSw; (try dsimp only at hSw); go_simp; try with_reducible rfl
        case rest1 =>
        simp only [Act.put, List.setIfInBounds_toArray, List.set_cons_zero, List.set_cons_succ, List.getElem_toArray, List.getElem_cons_zero, List.getElem_cons_succ]
        refine wpAnyX_take (i := 2) (v := ?v2) rfl (by kernel_rfl) (by kernel_rfl) (by kernel_rfl) (by kernel_rfl) (by kernel_rfl) (fun _ _ _ h => h) (Or.inl ⟨by rfl, ?hy2⟩) hHeld ?rest2
        case hy2 => intro w hSw; (try dsimp only at hSw); go_simp; try with_reducible rfl
        case rest2 =>
        simp only [Act.put, List.setIfInBounds_toArray, List.set_cons_zero, List.set_cons_succ, List.getElem_toArray, List.getElem_cons_zero, List.getElem_cons_succ]
        refine wpAnyX_take (i := 3) (v := ?v3) rfl (by kernel_rfl) (by kernel_rfl) (by kernel_rfl) (by kernel_rfl) (by kernel_rfl) (fun _ _ _ h => h) (Or.inl ⟨by rfl, ?hy3⟩) hHeld ?rest3
        case hy3 => intro w hSw; (try dsimp only at hSw); go_simp; try with_reducible rfl
        case rest3 =>
        simp only [Act.put, List.setIfInBounds_toArray, List.set_cons_zero, List.set_cons_succ, List.getElem_toArray, List.getElem_cons_zero, List.getElem_cons_succ]
        refine wpAnyX_take (i := 4) (v := ?v4) rfl (by kernel_rfl) (by kernel_rfl) (by kernel_rfl) (by kernel_rfl) (by kernel_rfl) (fun _ _ _ h => h) (Or.inl ⟨by rfl, ?hy4⟩) hHeld ?rest4
        case hy4 => intro w hSw; (try dsimp only at hSw); go_simp; try with_reducible rfl
        case rest4 =>
        simp only [Act.put, List.setIfInBounds_toArray, List.set_cons_zero, List.set_cons_succ, List.getElem_toArray, List.getElem_cons_zero, List.getElem_cons_succ]
        refine wpAnyX_take (i := 5) (v := ?v5) rfl (by kernel_rfl) (by kernel_rfl) (by kernel_rfl) (by kernel_rfl) (by kernel_rfl) (fun _ _ _ h => h) (Or.inl ⟨by rfl, ?hy5⟩) hHeld ?rest5
        case hy5 => intro w hSw; (try dsimp only at hSw); go_simp; try with_reducible rfl
        case rest5 =>
        simp only [Act.put, List.setIfInBounds_toArray, List.set_cons_zero, List.set_cons_succ, List.getElem_toArray, List.getElem_cons_zero, List.getElem_cons_succ]
        refine wpAnyX_take (i := 6) (v := ?v6) rfl (by kernel_rfl) (by kernel_rfl) (by kernel_rfl) (by kernel_rfl) (by kernel_rfl) (fun _ _ _ h => h) (Or.inl ⟨by rfl, ?hy6⟩) hHeld ?rest6
        case hy6 => intro w hSw; (try dsimp only at hSw); go_simp; try with_reducible rfl
        case rest6 =>
        simp only [Act.put, List.setIfInBounds_toArray, List.set_cons_zero, List.set_cons_succ, List.getElem_toArray, List.getElem_cons_zero, List.getElem_cons_succ]
        refine wpAnyX_take (i := 7) (v := ?v7) rfl (by kernel_rfl) (by kernel_rfl) (by kernel_rfl) (by kernel_rfl) (by kernel_rfl) (fun _ _ _ h => h) (Or.inl ⟨by rfl, ?hy7⟩) hHeld ?rest7
        case hy7 => intro w hSw; (try dsimp only at hSw); go_simp; try with_reducible rfl
        case rest7 =>
        simp only [Act.put, List.setIfInBounds_toArray, List.set_cons_zero, List.set_cons_succ, List.getElem_toArray, List.getElem_cons_zero, List.getElem_cons_succ]
        refine wpAnyX_take (i := 8) (v := ?v8) rfl (by kernel_rfl) (by kernel_rfl) (by kernel_rfl) (by kernel_rfl) (by kernel_rfl) (fun _ _ _ h => h) (Or.inl ⟨by rfl, ?hy8⟩) hHeld ?rest8
        case hy8 => intro w hSw; (try dsimp only at hSw); go_simp; try with_reducible rfl
        case rest8 =>
        simp only [Act.put, List.setIfInBounds_toArray, List.set_cons_zero, List.set_cons_succ, List.getElem_toArray, List.getElem_cons_zero, List.getElem_cons_succ]
        refine wpAnyX_take (i := 9) (v := ?v9) rfl (by kernel_rfl) (by kernel_rfl) (by kernel_rfl) (by kernel_rfl) (by kernel_rfl) (fun _ _ _ h => h) (Or.inl ⟨by rfl, ?hy9⟩) hHeld ?rest9
        case hy9 => intro w hSw; (try dsimp only at hSw); go_simp; try with_reducible rfl
        case rest9 =>
        simp only [Act.put, List.setIfInBounds_toArray, List.set_cons_zero, List.set_cons_succ, List.getElem_toArray, List.getElem_cons_zero, List.getElem_cons_succ]
        refine wpAnyX_take (i := 10) (v := ?v10) rfl (by kernel_rfl) (by kernel_rfl) (by kernel_rfl) (by kernel_rfl) (by kernel_rfl) (fun _ _ _ h => h) (Or.inl ⟨by rfl, ?hy10⟩) hHeld ?rest10
        case hy10 => intro w hSw; (try dsimp only at hSw); go_simp; try with_reducible rfl
        case rest10 =>
        simp only [Act.put, List.setIfInBounds_toArray, List.set_cons_zero, List.set_cons_succ, List.getElem_toArray, List.getElem_cons_zero, List.getElem_cons_succ]
        refine wpAnyX_one (i := 11) (by kernel_rfl) rfl (fun K hK => ?_)
        go_simp
        refine (hc.out _ (Below.refl _ _).drew).mono ?_
        rintro e w1 ⟨rfl, HC1, HB1⟩
        refine hK.out _ _ HC1 ?_
        clear hK K hHeld
        have hHeld := HC1
        refine wpAnyX_take (i := 12) (v := ?v12) rfl (by kernel_rfl) (by kernel_rfl) (by kernel_rfl) (by kernel_rfl) (by kernel_rfl) (fun _ _ _ h => h) (Or.inl ⟨by rfl, ?hy12⟩) hHeld ?rest12
        case hy12 => intro w hSw; (try dsimp only at hSw); go_simp; try with_reducible rfl
        case rest12 =>
        simp only [Act.put, List.setIfInBounds_toArray, List.set_cons_zero, List.set_cons_succ, List.getElem_toArray, List.getElem_cons_zero, List.getElem_cons_succ]
        refine wpAnyX_take (i := 13) (v := ?v13) rfl (by kernel_rfl) (by kernel_rfl) (by kernel_rfl) (by kernel_rfl) (by kernel_rfl) (fun _ _ _ h => h) (Or.inl ⟨by rfl, ?hy13⟩) hHeld ?rest13
        case hy13 => intro w hSw; (try dsimp only at hSw); go_simp; try with_reducible rfl
        case rest13 =>
        simp only [Act.put, List.setIfInBounds_toArray, List.set_cons_zero, List.set_cons_succ, List.getElem_toArray, List.getElem_cons_zero, List.getElem_cons_succ]
        refine wpAnyX_take (i := 14) (v := ?v14) rfl (by kernel_rfl) (by kernel_rfl) (by kernel_rfl) (by kernel_rfl) (by kernel_rfl) (fun _ _ _ h => h) (Or.inl ⟨by rfl, ?hy14⟩) hHeld ?rest14
        case hy14 => intro w hSw; (try dsimp only at hSw); go_simp; try with_reducible rfl
        case rest14 =>
        simp only [Act.put, List.setIfInBounds_toArray, List.set_cons_zero, List.set_cons_succ, List.getElem_toArray, List.getElem_cons_zero, List.getElem_cons_succ]
        refine wpAnyX_take (i := 15) (v := ?v15) rfl (by kernel_rfl) (by kernel_rfl) (by kernel_rfl) (by kernel_rfl) (by kernel_rfl) (fun _ _ _ h => h) (Or.inl ⟨by rfl, ?hy15⟩) hHeld ?rest15
        case hy15 => intro w hSw; (try dsimp only at hSw); go_simp; try with_reducible rfl
        case rest15 =>
        simp only [Act.put, List.setIfInBounds_toArray, List.set_cons_zero, List.set_cons_succ, List.getElem_toArray, List.getElem_cons_zero, List.getElem_cons_succ]
        refine wpAnyX_done (by kernel_rfl) ?_ _
        go_wp2
        go_ret2
        exact ⟨lo, _, rfl, HP, below_call' HB0.out (below_call' hb.out HB1.out)⟩
      · have hkL : ¬ (lo : Int) < (L.length : Int) := by omega
        have hbt : decide (lo < L.length) = false := by simp; omega
        clear g1 g2 g3 hlt
        go_wp2_with fail
        go_quiet (fail)
        go_wp2
        go_ret2
        exact ⟨lo, _, rfl, HP, below_call' HB0.out (below_drewN hb.out _)⟩
end Go.Proofs.Ytdeaniigimmoaaa
