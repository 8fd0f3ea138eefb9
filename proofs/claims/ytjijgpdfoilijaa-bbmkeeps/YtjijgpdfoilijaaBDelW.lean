/- maps.DeleteFunc over open places, walked. -/
import Derived.Test.YtjijgpdfoilijaaBDel
import Derived.Lib.Walk
namespace Go.Proofs.Ytjijgpdfoilijaa
open Go.RowKit

/-- What a function value has caught: numbers in boxes of their own. -/
def Caps (w : World) (cs : List (Nat × Int)) : Prop := ∀ p ∈ cs, Laid w p.1 3 #[.int .i64 p.2]
def CloPost (W : World) (x x' : Opn) (g : Bool) (e : Ending) (w' : World) : Prop := e = .returned (.bool g) ∧ OpnAt w' x' ∧ Keeps W w' fun c => c = x.o ∨ c = x.r
/-- What is asked of a function value that is asked of each. -/
def Clo (f : Nat) (lb : Array Value) (cs : List (Nat × Int)) (T : Opn → Opn) (gone : Opn → Bool) : Prop :=
  (∀ args w, (callFunc f args).run Try.prog w = .ok (.enter f args) w) ∧ ∀ W x s, Caps W cs → OpnAt W x → Calls Try.prog f (#[slotV s, .pointer (some ⟨x.o, 0, none⟩)] ++ lb) W (CloPost W x (T x) (gone x))
/-- The blocks of a map of places. -/
def foot (m : Nat) (l : Gaps) (c : Nat) : Prop := c = m ∨ ∃ p ∈ l, c = p.2.o ∨ c = p.2.r
/-- While the loop goes on. -/
structure Dl (w : World) (m : Nat) (l : Gaps) (cs : List (Nat × Int)) (T : Opn → Opn) (gone : Opn → Bool) (W : World) (dn : Int × Int → Bool) : Prop where
  rg : Rg slotM W m w.heap.size (cur T gone dn l) dn
  op : ∀ p ∈ cur T gone dn l, OpnAt W p.2
  caps : Caps W cs
  keeps : Keeps w W (foot m l)
def DelPost (w : World) (m : Nat) (l : Gaps) (T : Opn → Opn) (gone : Opn → Bool) (e : Ending) (w' : World) : Prop :=
  e = .returned (.tuple #[]) ∧ Mp slotM w' m (l.filterMap (stayT T gone)) ∧ (∀ p ∈ l.filterMap (stayT T gone), OpnAt w' p.2) ∧ Keeps w w' (foot m l)

section
variable {w W w1 w2 : World} {m : Nat} {l : Gaps} {cs : List (Nat × Int)} {T : Opn → Opn} {gone : Opn → Bool} {dn : Int × Int → Bool}
theorem Caps.same (h : Caps W cs) (e : ∀ p ∈ cs, w1.heap[p.1]? = W.heap[p.1]?) : Caps w1 cs := fun p hp => (e p hp).trans (h p hp)
theorem Caps.not (h : Caps W cs) {p : Nat × Int} (hp : p ∈ cs) {x : Opn} (hx : OpnAt W x) : p.1 ≠ x.o ∧ p.1 ≠ x.r :=
  ⟨ne_of_tag (h p hp) hx.box (by decide), ne_of_tag (h p hp) hx.row (by decide)⟩
theorem Caps.lt (h : Caps W cs) {p : Nat × Int} (hp : p ∈ cs) : p.1 < W.heap.size := (h p hp).lt
theorem Mp.ne' {b g : Nat} {c : Array Value} {t : TypeId} (h : Mp slotM W b l) (hg : Laid W g t c) : g ≠ b := fun e => h.ne hg e.symm
theorem Dl.start (hO : ∀ p ∈ l, OpnAt w p.2) (hC : Caps w cs) (hr : Rg slotM w1 m w.heap.size l (fun _ => false)) (hg : w.grownBy w1 none) : Dl w m l cs T gone w1 (fun _ => false) := by
  refine ⟨by rw [cur_start]; exact hr, fun p hp => ?_, ?_, ?_⟩
  · rw [cur_start] at hp
    exact (hO p hp).same (hg.block _ (hO p hp).box.lt (by simp)) (hg.block _ (hO p hp).row.lt (by simp))
  · exact hC.same fun p hp => hg.block _ (hC.lt hp) (by simp)
  · exact (Keeps.of_grown hg).mono fun _ _ e => by cases e
theorem Dl.not (D : Dl w m l cs T gone W dn) (g : Nat) (t : TypeId) (c : Array Value) (hL : Laid W g t c) : g ≠ w.heap.size := fun e => by
  obtain ⟨es, clock, since, seen, c0, _, _, _, _, hr, _⟩ := D.rg
  unfold Laid at hL
  rw [e, hr] at hL
  cases hL
theorem Dl.capsAlloc (D : Dl w m l cs T gone W dn) (hg1 : W.grownBy w1 (some w.heap.size)) (hs1 : w1.heap.size = W.heap.size) (o : Obj) : Caps (w1.alloc o) cs :=
  D.caps.same fun q hq => by rw [(MapKept.heap_alloc w1 o).2 _ (by rw [hs1]; exact D.caps.lt hq), hg1.block _ (D.caps.lt hq) (by simpa using D.not _ _ _ (D.caps q hq))]
theorem Dl.openAlloc (D : Dl w m l cs T gone W dn) {p : (Int × Int) × Opn} (hp : p ∈ cur T gone dn l) (hg1 : W.grownBy w1 (some w.heap.size)) (hs1 : w1.heap.size = W.heap.size) (o : Obj) : OpnAt (w1.alloc o) p.2 := by
  have h := D.op p hp
  exact h.same (by rw [(MapKept.heap_alloc w1 o).2 _ (by rw [hs1]; exact h.box.lt), hg1.block _ h.box.lt (by simpa using D.not _ _ _ h.box)]) (by rw [(MapKept.heap_alloc w1 o).2 _ (by rw [hs1]; exact h.row.lt), hg1.block _ h.row.lt (by simpa using D.not _ _ _ h.row)])
/-- One has come, and was asked. -/
theorem Dl.next (D : Dl w m l cs T gone W dn) (hA : Apart l) (hd : l.Pairwise fun p q => p.1 ≠ q.1) (hT : ∀ x, (T x).o = x.o ∧ (T x).r = x.r) {p : (Int × Int) × Opn} (hp : p ∈ cur T gone dn l) (hdn : dn p.1 = false)
    (hg1 : W.grownBy w1 (some w.heap.size)) (hs1 : w1.heap.size = W.heap.size) (o : Obj) (hO2 : OpnAt w2 (T p.2)) (hk : Keeps (w1.alloc o) w2 fun c => c = p.2.o ∨ c = p.2.r) :
    Caps w2 cs ∧ Keeps w w2 (foot m l) ∧ (∀ q ∈ cur T gone (step dn p.1) l, OpnAt w2 q.2) ∧ w2.heap[m]? = w1.heap[m]? ∧ w2.heap[w.heap.size]? = w1.heap[w.heap.size]? ∧ w2.heap[w1.heap.size]? = some o := by
  have hpl := cur_in hp hdn
  have hOp := D.op p hp
  have hmz := D.rg.mp.lt
  have hrz := D.rg.lt
  have size1 : (w1.alloc o).heap.size = w1.heap.size + 1 := by simp
  have blk : ∀ c, c < W.heap.size → c ≠ w.heap.size → c ≠ p.2.o → c ≠ p.2.r → w2.heap[c]? = W.heap[c]? := fun c hc h1 h2 h3 => by
    rw [hk.block c (by omega) (fun e => by rcases e with e | e <;> contradiction), (MapKept.heap_alloc w1 o).2 c (by omega), hg1.block c hc (by simpa using h1)]
  have pay : ∀ c, c < W.heap.size → c ≠ p.2.o → c ≠ p.2.r → w2.heap[c]? = w1.heap[c]? := fun c hc h2 h3 => by
    rw [hk.block c (by omega) (fun e => by rcases e with e | e <;> contradiction), (MapKept.heap_alloc w1 o).2 c (by omega)]
  have mo : m ≠ p.2.o := D.rg.mp.ne hOp.box
  have mr : m ≠ p.2.r := D.rg.mp.ne hOp.row
  have ro : w.heap.size ≠ p.2.o := fun e => by
    obtain ⟨es, clock, since, seen, c0, _, _, _, _, hr, _⟩ := D.rg
    have := hOp.box
    unfold Laid at this
    rw [← e, hr] at this
    cases this
  have rr : w.heap.size ≠ p.2.r := fun e => by
    obtain ⟨es, clock, since, seen, c0, _, _, _, _, hr, _⟩ := D.rg
    have := hOp.row
    unfold Laid at this
    rw [← e, hr] at this
    cases this
  have rc : ∀ (g : Nat) (t : TypeId) (c : Array Value), Laid W g t c → g ≠ w.heap.size := fun g t c hL e => by
    obtain ⟨es, clock, since, seen, c0, _, _, _, _, hr, _⟩ := D.rg
    unfold Laid at hL
    rw [e, hr] at hL
    cases hL
  refine ⟨D.caps.same fun q hq => ?_, ?_, fun q hq => ?_, pay m hmz mo mr, pay _ hrz ro rr, ?_⟩
  · have hn := D.caps.not hq hOp
    exact blk q.1 (D.caps.lt hq) (rc _ _ _ (D.caps q hq)) hn.1 hn.2
  · have k1 : Keeps w w1 (foot m l) := D.keeps.trans (Keeps.of_grown hg1) fun c hc e => by simp at e; omega
    have k2 : Keeps w1 (w1.alloc o) (fun _ => False) := (Keeps.of_grown (World.grownBy_alloc w1 o none)).mono fun _ _ e => by cases e
    refine (k1.trans k2 fun _ _ e => e.elim).trans hk fun c _ e => Or.inr ⟨p, hpl, e⟩
  · rcases cur_new hd hpl hq with ⟨_, _, rfl⟩ | ⟨hne, hq'⟩
    · exact hO2
    · have hq2 := D.op q hq'
      obtain ⟨q0, hq0, e1, e2, e3, _⟩ := cur_mem hT hq'
      have ha := hA q0 hq0 p hpl (by rw [← e1]; exact hne)
      have hqr : q.2.r ≠ p.2.o := fun e => ne_of_tag hq2.row hOp.box (by decide) e
      have hqo : q.2.o ≠ p.2.r := fun e => ne_of_tag hq2.box hOp.row (by decide) e
      exact hq2.same (blk _ hq2.box.lt (rc _ _ _ hq2.box) (by rw [e2]; exact ha.1) hqo) (blk _ hq2.row.lt (rc _ _ _ hq2.row) hqr (by rw [e3]; exact ha.2))
  · have h1 := hOp.box.lt
    have h2 := hOp.row.lt
    rw [hk.block _ (by omega) (fun e => by rcases e with e | e <;> omega)]
    exact (MapKept.heap_alloc w1 o).1
end

set_option maxRecDepth 100000 in
set_option maxHeartbeats 4000000 in
theorem delM_any {w : World} {m : Nat} {l : Gaps} {cs : List (Nat × Int)} {T : Opn → Opn} {gone : Opn → Bool} {f : Nat} {lb : Array Value} (hM : Mp slotM w m l) (hO : ∀ p ∈ l, OpnAt w p.2) (hA : Apart l) (hC : Caps w cs) (hT : ∀ x, (T x).o = x.o ∧ (T x).r = x.r) (hF : Clo f lb cs T gone) :
    Calls Try.prog 26 #[.map (some m), .func (.func f) #[] lb] w (DelPost w m l T gone) := by
  have hd := hM.apart
  have hok : ∀ p ∈ l, slotOk p.1 := by
    obtain ⟨es, clock, _, _, _, h⟩ := hM
    exact h
  obtain ⟨eg, hF⟩ := hF
  have HF : Hid _ := hF
  have HD : Hid _ := hd
  have HA : Hid _ := hA
  have HT : Hid _ := hT
  have HK : Hid _ := hok
  have HS : Hid (∀ w1, Rg slotM w1 m w.heap.size l (fun _ => false) → w.grownBy w1 none → Dl w m l cs T gone w1 (fun _ => false)) := fun w1 h1 h2 => Dl.start hO hC h1 h2
  clear hd hA hT hF hC hO hok
  go_enter Try.func26, Try.ntmps26
  go_wp2_with (first | (at_range; refine wpList_range_M (M := slotM) _ rfl _ rfl m l rfl hM ?_; intro w0 hrg0 hg0 hs0) | go_in)
  try go_frame
  go_loopw [8] (fun _ W => ∃ dn, Hid (Dl w m l cs T gone W dn)) (fun _ W => W.rangeLeft m w.heap.size)
  case atStart => exact ⟨_, HS.out _ hrg0 hg0⟩
  case round =>
    obtain ⟨dn, hD⟩ := hrel
    have hRG := hD.out.rg
    go_wp2_with (first | (at_next; refine wpList_next_M (M := slotM) _ rfl _ rfl m w.heap.size _ dn rfl hRG ?_ ?_) | go_in)
    · intro hdone
      go_wp2
      go_end0
      have e := cur_end fun p hp => hdone p.1.1 p.1.2 p.2 hp
      exact ⟨rfl, by rw [← e]; exact hRG.mp, fun p hp => hD.out.op p (by rw [e]; exact hp), hD.out.keeps⟩
    · intro s1 s2 x w1 hp hdn hrg hg1 hs1 hen
      have hc := HF.out (w1.alloc (.cells #[.int .i64 s1, .int .i64 s2] 53)) x (s1, s2) (hD.out.capsAlloc hg1 hs1 _) (hD.out.openAlloc hp hg1 hs1 _)
      have hnx := fun w2 => hD.out.next (w2 := w2) HA.out HD.out HT.out hp hdn hg1 hs1 (.cells #[.int .i64 s1, .int .i64 s2] 53)
      have hpl := cur_in hp hdn
      have hks := HK.out _ hpl
      simp only [slotM, slotV] at hen
      unfold slotV at hc
      have HN : Hid _ := hnx
      have HP : Hid _ := hp
      have HDN : Hid _ := hdn
      have HRG : Hid (Rg slotM w1 m w.heap.size (cur T gone dn l) (step dn (s1, s2))) := hrg
      have HSK : Hid _ := hks
      have HPL : Hid _ := hpl
      have HS1 : Hid _ := hs1
      have HG1 : Hid _ := hg1
      clear hnx hp hdn hrg hg1 hks hpl hs1 hD hrg0 hg0 hs0
      cases hgo : gone x with
      | true =>
        rw [hgo] at hc
        have HG : Hid _ := hgo
        clear hgo
        go_wp2_with fail
        refine hc.mono ?_
        rintro e w2 ⟨rfl, ho2, hk2⟩
        obtain ⟨n1, n2, n3, n4, n5, n6⟩ := HN.out w2 ho2 hk2
        have q0 : w2.cell? ⟨w1.heap.size, 0, none⟩ = some (.int .i64 s1) := by rw [cell_of_row w2 _ 0 _ _ _ n6]; rfl
        have q1 : w2.cell? ⟨w1.heap.size, 1, none⟩ = some (.int .i64 s2) := by rw [cell_of_row w2 _ 1 _ _ _ n6]; rfl
        have HR2 : Hid (Rg slotM w2 m w.heap.size (cur T gone dn l) (step dn (s1, s2))) := HRG.out.same n4 n5
        have H1 : Hid (Caps w2 cs) := n1
        have H2 : Hid (Keeps w w2 (foot m l)) := n2
        have H3 : Hid _ := n3
        clear n1 n2 n3 n4 n5 n6 ho2 hk2 hc HN hen
        go_wp2_with (first | (at_delete; refine wpList_delete_R (M := slotM) _ rfl _ _ rfl m w.heap.size _ _ rfl HR2.out (s1, s2) HSK.out rfl ?_; intro w3 hrg3 hturn) | go_in)
        try go_frame
        go_roundw
        case rel =>
          refine ⟨step dn (s1, s2), ⟨?_, fun p hp => ?_, ?_, ?_⟩⟩
          · rw [← cur_del HD.out HPL.out HDN.out HG.out]
            exact hrg3
          · exact (H3.out p hp).same (hturn.grown.block _ (H3.out p hp).box.lt (by simpa using HR2.out.mp.ne' (H3.out p hp).box)) (hturn.grown.block _ (H3.out p hp).row.lt (by simpa using HR2.out.mp.ne' (H3.out p hp).row))
          · exact H1.out.same fun p hp => hturn.grown.block _ (H1.out.lt hp) (by simpa using HR2.out.mp.ne' (H1.out p hp))
          · exact H2.out.trans (Keeps.of_grown hturn.grown) fun c _ e => Or.inl (by simpa using e.symm)
        case measure =>
          rw [hrg3.left_eq, hRG.left_eq]
          exact Nat.lt_of_le_of_lt (left_del _ _) (left_drops HDN.out _ HP.out)
      | false =>
        rw [hgo] at hc
        have HG : Hid _ := hgo
        clear hgo
        go_wp2_with fail
        refine hc.mono ?_
        rintro e w2 ⟨rfl, ho2, hk2⟩
        obtain ⟨n1, n2, n3, n4, n5, n6⟩ := HN.out w2 ho2 hk2
        have q0 : w2.cell? ⟨w1.heap.size, 0, none⟩ = some (.int .i64 s1) := by rw [cell_of_row w2 _ 0 _ _ _ n6]; rfl
        have q1 : w2.cell? ⟨w1.heap.size, 1, none⟩ = some (.int .i64 s2) := by rw [cell_of_row w2 _ 1 _ _ _ n6]; rfl
        have HR2 : Hid (Rg slotM w2 m w.heap.size (cur T gone dn l) (step dn (s1, s2))) := HRG.out.same n4 n5
        have H1 : Hid (Caps w2 cs) := n1
        have H2 : Hid (Keeps w w2 (foot m l)) := n2
        have H3 : Hid _ := n3
        clear n1 n2 n3 n4 n5 n6 ho2 hk2 hc HN hen
        go_wp2
        go_roundw
        case rel => exact ⟨step dn (s1, s2), ⟨HR2.out.turn (cur_turn HT.out HD.out HPL.out HDN.out HG.out), H3.out, H1.out, H2.out⟩⟩
        case measure =>
          rw [HR2.out.left_eq, hRG.left_eq]
          exact left_drops HDN.out _ HP.out
end Go.Proofs.Ytjijgpdfoilijaa
